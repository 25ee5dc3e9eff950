/- The document's reader of JSON: object, out of value. -/
import Derived.Test.YtlaagdpanbineaaGreatDoorRk
namespace Go.Proofs.YtlaagdpanbineaaGreatDoor
open Go.RowKit

/-- the loop of object: what is known at its head -/
structure ObG (R : Nat) (s : ByteArray) (w : World) (d : Nat) (res : Res) (wr : World) (G g k c : Nat) (ks : List (List UInt8)) (kids : List NT) (kv cv : Value) (xs : List Value) : Prop where
  rd : RdA wr R s k 0 c
  hk : k ≤ s.size
  out : Blk wr (w.heap.size + 1) (.int .i64 7) (.int .i64 0) (.string ⟨#[]⟩) kv cv
  ownk : wr.ownsRow (w.heap.size + 2) 9 1 kv ks.length (ks.map strVr)
  own : wr.ownsRow (w.heap.size + 2) 26 5 cv kids.length xs
  dis : ∀ b, kv.ownBlock = some b → cv.ownBlock ≠ some b
  cis : CIs (rowsOk w kv cv) G wr kids xs
  eq : res = pJ g (.obj ks kids) d c (s.data.toList.drop k)
  fuel : 2 * (s.size - k) + 3 ≤ g
  len : kids.length ≤ k
  lenk : ks.length = kids.length
  gb : w.grownBy wr (some R)
structure ObB (R : Nat) (s : ByteArray) (w : World) (res : Res) (wr : World) (e k c : Nat) (A : Option Addr) (l l2 : Nat) (A2 : Option Addr) (m m2 : Nat) : Prop where
  rd : RdA wr R s k e c
  out : Blk wr (w.heap.size + 1) (.int .i64 7) (.int .i64 0) (.string ⟨#[]⟩) (.slice A l l2) (.slice A2 m m2)
  pos : 0 < e
  eq : res = .bad e
  gb : w.grownBy wr (some R)

theorem pJ_skip_obj (g d c : Nat) (ks : List (List UInt8)) (acc : List NT) (l : List UInt8) : pJ g (.obj ks acc) d c (skipB l) = pJ g (.obj ks acc) d c l := by
  cases g with
  | zero => rfl
  | succ g => unfold pJ; rw [skipB_idem]
theorem strInfor : (Tryz.prog.info? 9).map (fun i => (i.zero, i.size, i.bytes)) = some (some (.string ⟨#[]⟩), 1, 16) := by kernel_rfl
theorem news_strr (t : ByteArray) : ∀ u ∈ [Value.string t], u.oneCell' = true := by
  intro u hu
  simp only [List.mem_cons, List.not_mem_nil, or_false] at hu
  subst hu
  rfl
theorem own_slice {w : World} {base size n : Nat} {e : TypeId} {v : Value} {xs : List Value} (h : w.ownsRow base e size v n xs) : ∃ A c, v = .slice A n c := by
  rcases h.2 with ⟨h, h0⟩ | ⟨g9, cap, cur, h, _⟩
  · exact ⟨_, _, by rw [h, h0]⟩
  · exact ⟨_, _, h⟩
def objR (g d c : Nat) (l : List UInt8) : Res := match skipB l with
  | [] => pJ g (.obj [] []) d c l
  | y :: u => if y.toNat = 125 then .ok (.mk 7 0 [] [] []) u c else pJ g (.obj [] []) d c l
theorem fail_more (R : Nat) (s : ByteArray) (k c e n : Nat) (w : World) (h : RdA w R s k e c) (he : 0 < e) :
    Calls Tryz.prog 19 #[.pointer (some ⟨R, 0, none⟩), .int .i64 n] w fun x w' => x = .returned (.tuple #[]) ∧ w' = w := by
  have c2 := h.c2
  have q : ((e : Int) == 0) = false := by simp; omega
  clear h
  go_enter Tryz.func19, Tryz.ntmps19
  go_wp2
  go_end0
  exact ⟨rfl, rfl⟩

set_option maxRecDepth 100000 in
set_option maxHeartbeats 4000000 in
theorem obj_any (g : Nat) (ih : ∀ g', g' < g → ValC g') (R : Nat) (s : ByteArray) (d k c : Nat) (w : World) (hs : s.size ≤ 200000) (hd : d ≤ 39) (h : RdA w R s k 0 c) (hk : k ≤ s.size) (hf : 2 * (s.size - k) + 3 ≤ g) (hc20 : c ≤ 20000) :
    Calls Tryz.prog 39 #[.pointer (some ⟨R, 0, none⟩), .int .i64 d] w fun y w' => VPost R s (g + 1) w (objR g d c (s.data.toList.drop k)) y w' := by
  have HR := Lib.hid h
  have IH := Lib.hid ih
  have hRX : R < w.heap.size := h.lt
  obtain ⟨res, hres⟩ : ∃ res, objR g d c (s.data.toList.drop k) = res := ⟨_, rfl⟩
  rw [hres]
  have HRS := Lib.hid hres
  clear h ih hres
  go_enter Tryz.func39, Tryz.ntmps39
  go_upto_region 2 with fail
  refine wp_gen (fun w2 => Hid (zeroBlk w2 w.heap.size) ∧ Hid (Blk w2 (w.heap.size + 1) (.int .i64 7) (.int .i64 0) (.string ⟨#[]⟩) (.slice none 0 0) (.slice none 0 0)) ∧ Hid (RdA w2 R s k 0 c) ∧ Hid (w.grownBy w2 (some R)) ∧ w2.heap.size = w.heap.size + 2)
    ⟨(Below.heap_alloc _ _ _ (by simp)).trans (heap_alloc_new w _), heap_alloc_new2 w _ _, (HR.out.alloc _).alloc _, gb_alloc (gb_alloc (gb_refl w _) _) _, by simp⟩ ?_
  intro w2 ⟨HZ2, HX2, HR2, HG2, hz2⟩
  obtain ⟨m, hm⟩ : ∃ m, headB (skipB (s.data.toList.drop k)) = m := ⟨_, rfl⟩
  have hN := next_hd R s k 0 c w2 HR2.out hs hk hm
  by_cases h125 : m = 125
  · subst h125
    obtain ⟨y, u, hyu, hy⟩ : ∃ y u, skipB (s.data.toList.drop k) = y :: u ∧ y.toNat = 125 := by
      cases hz : skipB (s.data.toList.drop k) with
      | nil => rw [hz] at hm; simp [headB] at hm
      | cons y u => rw [hz] at hm; exact ⟨y, u, rfl, hm⟩
    have HRes : Hid (res = .ok (.mk 7 0 [] [] []) u c) := by
      show res = _
      rw [← HRS.out]
      unfold objR
      rw [hyu]
      simp only []
      rw [if_pos hy]
    have HYU := Lib.hid hyu
    clear hm hyu hy
    go_wp2_with fail
    refine hN.mono ?_
    rintro e w3 ⟨rfl, k1, hR3, hk1, hd3, hg3⟩
    clear hN
    obtain ⟨hlt, hu⟩ := drop_cons (hd3.trans HYU.out)
    have HU := Lib.hid hu
    have HR3 := Lib.hid hR3
    have HG3 := Lib.hid (gb_trans HG2.out hg3)
    have HZ3 : Hid (zeroBlk w3 w.heap.size) := (hg3.block _ HZ2.out.lt (by simp; omega)).trans HZ2.out
    have HX3 : Hid (Blk w3 (w.heap.size + 1) (.int .i64 7) (.int .i64 0) (.string ⟨#[]⟩) (.slice none 0 0) (.slice none 0 0)) := (hg3.block _ HX2.out.lt (by simp; omega)).trans HX2.out
    have c1 := HR3.out.c1
    have f1 := HR3.out.fz 1 (by omega)
    have hs3 := HR3.out.set1 (k1 + 1)
    have hc : ((k1 + 1 : Nat) : Int) = (k1 : Int) + 1 := by omega
    rw [hc] at hs3
    have HS3 := Lib.hid hs3
    clear hR3 hd3 hg3 hs3 hc hu
    go_upto_region 4 with fail
    refine wp_gen (fun w4 => Hid (zeroBlk w4 w.heap.size) ∧ Hid (Blk w4 (w.heap.size + 1) (.int .i64 7) (.int .i64 0) (.string ⟨#[]⟩) (.slice none 0 0) (.slice none 0 0)) ∧ Hid (RdA w4 R s (k1 + 1) 0 c) ∧ Hid (w.grownBy w4 (some R)))
      ⟨HZ3.out.other (by omega) _, HX3.out.other (by omega) _, HS3.out, gb_set HG3.out _⟩ ?_
    intro w4 ⟨HZ, HX, HR4, HG4⟩
    have z0 := HZ.out.cell 0 (by omega)
    have z1 := HZ.out.cell 1 (by omega)
    have z2 := HZ.out.cell 2 (by omega)
    have z3 := HZ.out.cell 3 (by omega)
    have z4 := HZ.out.cell 4 (by omega)
    have f0 := HZ.out.fz
    have x0 := HX.out.cell 0 (by omega)
    have x1 := HX.out.cell 1 (by omega)
    have x2 := HX.out.cell 2 (by omega)
    have x3 := HX.out.cell 3 (by omega)
    have x4 := HX.out.cell 4 (by omega)
    clear c1 f1
    go_wp2
    refine bp_gen (fun w5 => Hid (Blk w5 w.heap.size (.int .i64 7) (.int .i64 0) (.string ⟨#[]⟩) (.slice none 0 0) (.slice none 0 0)) ∧ Hid (RdA w5 R s (k1 + 1) 0 c) ∧ Hid (w.grownBy w5 (some R))) ⟨HZ.out.store _ _ _ _ _, ((((HR4.out.other (by omega) _).other (by omega) _).other (by omega) _).other (by omega) _).other (by omega) _, gb_new (gb_new (gb_new (gb_new (gb_new HG4.out (Nat.le_refl _) _) (Nat.le_refl _) _) (Nat.le_refl _) _) (Nat.le_refl _) _) (Nat.le_refl _) _⟩ ?_
    intro w5 ⟨HZ5, HR5, HG5⟩
    have y0 := HZ5.out.cell 0 (by omega)
    have y1 := HZ5.out.cell 1 (by omega)
    have y2 := HZ5.out.cell 2 (by omega)
    have y3 := HZ5.out.cell 3 (by omega)
    have y4 := HZ5.out.cell 4 (by omega)
    (try simp only [Exit.inBlock, Exit.then])
    refine bodyPost_ret (v := litV 7 0 [] (.slice none 0 0) (.slice none 0 0)) ?_ rfl ?_
    · simp [results, Tryz.results39, go_sem, y0, y1, y2, y3, y4]
      rfl
    · rw [HRes.out]
      exact ⟨_, rfl, ⟨_, none, 0, rfl, ⟨none, 0, rfl, .inl rfl⟩, .inl rfl⟩, HG5.out, k1 + 1, HR5.out, by omega, HU.out.symm⟩
  · have HE : Hid (objR g d c (s.data.toList.drop k) = pJ g (.obj [] []) d c (skipB (s.data.toList.drop k))) := by
      show objR g d c (s.data.toList.drop k) = _
      rw [pJ_skip_obj]
      unfold objR
      cases hz : skipB (s.data.toList.drop k) with
      | nil => rfl
      | cons y u =>
        rw [hz] at hm
        simp only [headB] at hm
        simp only []
        rw [if_neg (by omega)]
    rw [HRS.out] at HE
    have q125 : ((m : Int) == 125) = false := by simp; omega
    clear hm h125
    go_wp2_with fail
    refine hN.mono ?_
    rintro e w3 ⟨rfl, k1, hR3, hk1, hd3, hg3⟩
    clear hN
    have hle := drop_le hk1 hd3
    have HG3 := Lib.hid (gb_trans HG2.out hg3)
    have HZ3 : Hid (zeroBlk w3 w.heap.size) := (hg3.block _ HZ2.out.lt (by simp; omega)).trans HZ2.out
    have HX3 : Hid (Blk w3 (w.heap.size + 1) (.int .i64 7) (.int .i64 0) (.string ⟨#[]⟩) (.slice none 0 0) (.slice none 0 0)) := (hg3.block _ HX2.out.lt (by simp; omega)).trans HX2.out
    have HA : Hid (ObG R s w d res w3 g g k1 c [] [] (.slice none 0 0) (.slice none 0 0) []) := ⟨hR3, hk1, HX3.out, World.ownsRow_nil _ _ _ _, World.ownsRow_nil _ _ _ _, by simp [Value.ownBlock], CIs.nil _ _ _, by rw [hd3]; exact HE.out, by omega, by simp, rfl, HG3.out⟩
    clear hR3 hd3 hg3 HG2 HZ2 HX2 HR2 hz2 HX3 HG3 HR HE hf hk
    go_wp2_with fail
    go_loopw [6, 8, 36] (fun _ _ _ wr => Hid (zeroBlk wr w.heap.size) ∧ ((∃ g' k c ks kids kv cv xs, g' ≤ g ∧ c ≤ 20000 ∧ Hid (ObG R s w d res wr g g' k c ks kids kv cv xs)) ∨ (∃ e k c A l l2 A2 m m2, Hid (ObB R s w res wr e k c A l l2 A2 m m2)))) (fun _ _ _ wr => leftOf wr R s)
    case atStart => exact ⟨HZ3, .inl ⟨g, k1, c, [], [], _, _, [], Nat.le_refl _, hc20, HA⟩⟩
    case round =>
      obtain ⟨HZr, hh⟩ := hrel
      rcases hh with ⟨g', k, c, ks, kids, kv, cv, xs, hg', hcle, HAG⟩ | ⟨e, k, c, A, l, l2, A2, m2, m3, HAB⟩
      · obtain ⟨i0, hi, hz0, hz1, hz2⟩ := info_parts nodeInfo
        have c2 := HAG.out.rd.c2
        have hfu := HAG.out.fuel
        have hkl := HAG.out.hk
        have hle2 := HAG.out.len
        obtain ⟨g2, rfl⟩ : ∃ g2, g' = g2 + 1 := ⟨g' - 1, by omega⟩
        have hEQ := HAG.out.eq
        unfold pJ at hEQ
        cases hT : takeL (skipB (s.data.toList.drop k)) with
        | none =>
          rw [hT] at hEQ
          have HEQ : Hid (res = .bad 1) := hEQ
          clear hEQ
          have hX := text_no R s k c wr HAG.out.rd hs hkl hT
          go_wp2_with fail
          refine hX.mono ?_
          rintro y w1 ⟨rfl, hg1, k1, hR1⟩
          clear hX c2
          have c2 := hR1.c2
          have s1 := hg1.size
          obtain ⟨A, l, hkv⟩ := own_slice HAG.out.ownk
          obtain ⟨A2, m3, hcv⟩ := own_slice HAG.out.own
          subst hkv hcv
          have hpos : 0 < 1 := by omega
          have hrl := HAG.out.rd.lt
          have hgs := HAG.out.gb.size
          go_upto_region 24 with fail
          refine wp_gen (fun w4 => Hid (zeroBlk w4 w.heap.size) ∧ Hid (Blk w4 (w.heap.size + 1) (.int .i64 7) (.int .i64 0) (.string ⟨#[]⟩) (.slice A ks.length l) (.slice A2 kids.length m3)) ∧ Hid (RdA w4 R s k1 1 c) ∧ Hid (w.grownBy w4 (some R)))
            ⟨HZr.out.grown hg1 (by simp; omega), HAG.out.out.grown hg1 (by simp; omega), hR1, gb_trans HAG.out.gb hg1⟩ ?_
          intro w4 ⟨HZ, HX, HR4, HG4⟩
          clear c2
          have z0 := HZ.out.cell 0 (by omega)
          have z1 := HZ.out.cell 1 (by omega)
          have z2 := HZ.out.cell 2 (by omega)
          have z3 := HZ.out.cell 3 (by omega)
          have z4 := HZ.out.cell 4 (by omega)
          have f0 := HZ.out.fz
          have x0 := HX.out.cell 0 (by omega)
          have x1 := HX.out.cell 1 (by omega)
          have x2 := HX.out.cell 2 (by omega)
          have x3 := HX.out.cell 3 (by omega)
          have x4 := HX.out.cell 4 (by omega)
          go_wp2
          refine bp_gen (fun w5 => Hid (Blk w5 w.heap.size (.int .i64 7) (.int .i64 0) (.string ⟨#[]⟩) (.slice A ks.length l) (.slice A2 kids.length m3)) ∧ Hid (RdA w5 R s k1 1 c) ∧ Hid (w.grownBy w5 (some R))) ⟨HZ.out.store _ _ _ _ _, ((((HR4.out.other (by omega) _).other (by omega) _).other (by omega) _).other (by omega) _).other (by omega) _, gb_new (gb_new (gb_new (gb_new (gb_new HG4.out (Nat.le_refl _) _) (Nat.le_refl _) _) (Nat.le_refl _) _) (Nat.le_refl _) _) (Nat.le_refl _) _⟩ ?_
          intro w5 ⟨HZ5, HR5, HG5⟩
          have y0 := HZ5.out.cell 0 (by omega)
          have y1 := HZ5.out.cell 1 (by omega)
          have y2 := HZ5.out.cell 2 (by omega)
          have y3 := HZ5.out.cell 3 (by omega)
          have y4 := HZ5.out.cell 4 (by omega)
          (try simp only [Exit.inBlock, Exit.then])
          refine bodyPost_ret (v := litV 7 0 [] (.slice A ks.length l) (.slice A2 kids.length m3)) ?_ rfl ?_
          · simp [results, Tryz.results39, go_sem, y0, y1, y2, y3, y4]
            rfl
          · rw [HEQ.out]
            exact ⟨_, rfl, ⟨_, _, _, _, _, _, _, _, _, rfl⟩, HG5.out, hpos, _, _, HR5.out⟩
        | some p =>
          obtain ⟨x, n⟩ := p
          rw [hT] at hEQ
          simp only [] at hEQ
          have HEQ := Lib.hid hEQ
          clear hEQ
          have hX := text_yes R s k c wr HAG.out.rd hs hkl hT
          go_wp2_with fail
          refine hX.mono ?_
          rintro y w1 ⟨rfl, hg1, k1, hR1, hk1, hd1⟩
          clear hX c2
          have c2 := hR1.c2
          have s1 := hg1.size
          have hX1 := HAG.out.out.grown hg1 (by have := HAG.out.rd.lt; have := HAG.out.gb.size; simp; omega)
          have x3 := hX1.cell 3 (by omega)
          obtain ⟨Ak, lk, hkv⟩ := own_slice HAG.out.ownk
          have hrl := HAG.out.rd.lt
          have hgs := HAG.out.gb.size
          subst hkv
          have HO1 := Lib.hid (own_gb HAG.out.ownk hg1 (by omega))
          go_wp2_with fail
          have HX1 := Lib.hid hX1
          have HZ1 := Lib.hid (HZr.out.grown hg1 (by simp; omega))
          have HN1 := Lib.hid (own_gb HAG.out.own hg1 (by omega))
          have HC1 := Lib.hid (HAG.out.cis.kept s1 (fun b hb hlt => ⟨hb, hg1.block b hlt (by have := hb.1; simp; omega)⟩))
          have HG1 := Lib.hid (gb_trans HAG.out.gb hg1)
          have HR1 := Lib.hid hR1
          have HD1 := Lib.hid hd1
          have hkn : ks.length ≤ 200000 := by have := HAG.out.lenk; omega
          clear hX1 hd1
          go_loopw [8, 36] (fun _ i wx => ∃ J : Nat, J ≤ ks.length ∧ i = .int .i64 J ∧ Hid (w1.grownBy wx (some R)) ∧ Hid (RdA wx R s k1 (if x ∈ ks.take J then 5 else 0) c)) (fun _ i _ => ks.length - (intOf i).toNat)
          case atStart => exact ⟨0, by omega, rfl, gb_refl _ _, Lib.hid (by simpa using HR1.out)⟩
          case round =>
            obtain ⟨J, hJ, rfl, HGx, HRx⟩ := hrel
            by_cases hlt : J < ks.length
            · have ho := own_gb HO1.out HGx.out (by omega)
              obtain ⟨g9, cap9, e9, _, _⟩ := ho.form (by omega)
              injection e9 with e9 _ e9b
              subst e9 e9b
              have hce : wr.cell? ⟨g9, J, none⟩ = some (.string ⟨ks[J].toArray⟩) := by
                rw [ho.cellAt J (by omega)]
                simp [hlt, strVr]
              have hce0 : wr.cell? ⟨g9, 0 + J, none⟩ = some (.string ⟨ks[J].toArray⟩) := by rw [Nat.zero_add]; exact hce
              by_cases hk : ks[J] = x
              · have hmem : Hid (x ∈ ks.take (J + 1)) := by
                  show _ ∈ _
                  rw [List.take_succ_eq_append_getElem hlt]
                  simp [hk]
                by_cases hm5 : x ∈ ks.take J
                · have hR5 := HRx.out
                  rw [if_pos hm5] at hR5
                  have HR5 := Lib.hid hR5
                  clear hR5 hm5
                  have hF := fail_more R s k1 c 5 5 wr HR5.out (by omega)
                  go_wp2_with fail
                  refine hF.mono ?_
                  rintro y w3 ⟨rfl, rfl⟩
                  clear hF
                  go_wp2_with fail
                  go_roundw
                  case rel => exact ⟨J + 1, by omega, by simp, HGx, Lib.hid (by rw [if_pos hmem.out]; exact HR5.out)⟩
                  case measure => simp [intOf]; omega
                · have hR5 := HRx.out
                  rw [if_neg hm5] at hR5
                  have HR5 := Lib.hid hR5
                  clear hR5 hm5
                  have hF := fail_any R s k1 c 5 wr HR5.out
                  have HS5 := Lib.hid (HR5.out.set2 5)
                  go_wp2_with fail
                  refine hF.mono ?_
                  rintro y w3 ⟨rfl, rfl⟩
                  clear hF
                  go_wp2_with fail
                  go_roundw
                  case rel => exact ⟨J + 1, by omega, by simp, Lib.hid (gb_set HGx.out _), Lib.hid (by rw [if_pos hmem.out]; exact HS5.out)⟩
                  case measure => simp [intOf]; omega
              · have hkb : (ks[J] == x) = false := by simp [hk]
                have hmem : Hid ((x ∈ ks.take (J + 1)) = (x ∈ ks.take J)) := by
                  show _ = _
                  rw [List.take_succ_eq_append_getElem hlt]
                  simp only [List.mem_append, List.mem_singleton, eq_iff_iff]
                  exact ⟨fun h => h.resolve_right (fun e => hk e.symm), Or.inl⟩
                go_wp2_with fail
                go_roundw
                case rel => exact ⟨J + 1, by omega, by simp, HGx, Lib.hid (by simp only [hmem.out]; exact HRx.out)⟩
                case measure => simp [intOf]; omega
            · obtain rfl : J = ks.length := by omega
              have hxe : ks.take ks.length = ks := List.take_length
              rw [hxe] at HRx
              clear hxe hlt hJ
              have hws := HGx.out.size
              have HZ2 := Lib.hid (HZ1.out.grown HGx.out (by simp; omega))
              have HX2 := Lib.hid (HX1.out.grown HGx.out (by simp; omega))
              have hok := own_gb HO1.out HGx.out (by omega)
              have HN2 := Lib.hid (own_gb HN1.out HGx.out (by omega))
              have HC2 := Lib.hid (HC1.out.kept hws (fun b hb hlt => ⟨hb, HGx.out.block b hlt (by have := hb.1; simp; omega)⟩))
              have HG2 := Lib.hid (gb_trans HG1.out HGx.out)
              have x3 := HX2.out.cell 3 (by omega)
              have hx1 := HX2.out.lt
              obtain ⟨i1, hi1, hy0, hy1, hy2⟩ := info_parts strInfor
              obtain ⟨A2, m3, hcv⟩ := own_slice HAG.out.own
              subst hcv
              go_upto_region 15 with (at_builtin; refine wpList_append_lies _ (by rfl) (.tmp 47) (.tmp 49) 23 (by rfl) (w.heap.size + 2) 9 i1 _ 1 16 Tryz.underlying23 hi1 hy0 hy1 hy2 (by rfl) (by decide) (.slice Ak ks.length lk) ks.length (ks.map strVr) (by rfl) (hok.alloc _) ⟨wr.heap.size, 0, none⟩ 1 1 [.string ⟨x.toArray⟩] (by rfl) rfl (World.news_of_block (heap_alloc_new wr _)) (news_strr _) (by decide) (by unfold maxLen; omega) (by omega) (by simp; omega) (wr.heap.size + 1) (by simp) ?_; intro gg cap w9 hown9 hgrow9 hat9 hlt9; have hX9 := (HX2.out.grown (gb_alloc (gb_refl _ (some R)) _) (by simp; omega)).grown hgrow9 (fun e => by have := (hok.lt _ e.symm).1; omega); have k9 := hX9.cell 3 (by omega); have f9 := hX9.fz 3; have hA := key_append (G := g) hRX HZ2.out HX2.out hok HN2.out HAG.out.dis HC2.out HG2.out HRx.out hgrow9 hat9 hlt9 hown9; clear hX9 hown9 hgrow9 hat9 hlt9; obtain ⟨HZ5, HR5, HX5, HK5, HN5, HD5, HC5, HG5⟩ := hA; have c2 := HR5.c2; have HZ6 := Lib.hid HZ5; have HR6 := Lib.hid HR5; have HX6 := Lib.hid HX5; have HK6 := Lib.hid HK5; have HN6 := Lib.hid HN5; have HD6 := Lib.hid HD5; have HC6 := Lib.hid HC5; have HG6 := Lib.hid HG5; clear HZ5 HR5 HX5 HK5 HN5 HD5 HC5 HG5)
              refine wp_gen (fun w4 => ∃ A l, Hid (zeroBlk w4 w.heap.size) ∧ Hid (Blk w4 (w.heap.size + 1) (.int .i64 7) (.int .i64 0) (.string ⟨#[]⟩) (.slice A (ks.length + 1) l) (.slice A2 kids.length m3)) ∧ Hid (RdA w4 R s k1 (if x ∈ ks then 5 else 0) c) ∧ Hid (w.grownBy w4 (some R)) ∧ Hid (w4.ownsRow (w.heap.size + 2) 9 1 (.slice A (ks.length + 1) l) (ks ++ [x]).length ((ks ++ [x]).map strVr)) ∧ Hid (w4.ownsRow (w.heap.size + 2) 26 5 (.slice A2 kids.length m3) kids.length xs) ∧ Hid (∀ b, (Value.slice A (ks.length + 1) l).ownBlock = some b → (Value.slice A2 kids.length m3).ownBlock ≠ some b) ∧ Hid (CIs (rowsOk w (.slice A (ks.length + 1) l) (.slice A2 kids.length m3)) g w4 kids xs))
                ⟨_, _, HZ6, HX6, HR6, HG6, Lib.hid (by rw [List.length_append, List.map_append]; exact HK6.out), HN6, HD6, HC6⟩ ?_
              intro wo ⟨A, l, HZo, HXo, HRo, HGo, HKo, HNo, HDo, HCo⟩
              clear HZ6 HX6 HR6 HG6 HK6 HN6 HD6 HC6 k9 f9 HX2 HZ2 HN2 HC2 HG2 x3 hok HX1 HZ1 HN1 HC1 HG1 HR1 HO1 hx1 hws
              clear c2
              have hpos : 0 < 5 := by omega
              by_cases hmem : x ∈ ks
              · rw [if_pos hmem] at HRo HEQ
                have c2 := HRo.out.c2
                go_upto_region 24 with fail
                refine wp_gen (fun w4 => Hid (zeroBlk w4 w.heap.size) ∧ Hid (Blk w4 (w.heap.size + 1) (.int .i64 7) (.int .i64 0) (.string ⟨#[]⟩) (.slice A (ks.length + 1) l) (.slice A2 kids.length m3)) ∧ Hid (RdA w4 R s k1 5 c) ∧ Hid (w.grownBy w4 (some R)))
                  ⟨HZo, HXo, HRo, HGo⟩ ?_
                intro w4 ⟨HZ, HX, HR4, HG4⟩
                clear c2
                have z0 := HZ.out.cell 0 (by omega)
                have z1 := HZ.out.cell 1 (by omega)
                have z2 := HZ.out.cell 2 (by omega)
                have z3 := HZ.out.cell 3 (by omega)
                have z4 := HZ.out.cell 4 (by omega)
                have f0 := HZ.out.fz
                have x0 := HX.out.cell 0 (by omega)
                have x1 := HX.out.cell 1 (by omega)
                have x2 := HX.out.cell 2 (by omega)
                have x3 := HX.out.cell 3 (by omega)
                have x4 := HX.out.cell 4 (by omega)
                go_wp2
                refine bp_gen (fun w5 => Hid (Blk w5 w.heap.size (.int .i64 7) (.int .i64 0) (.string ⟨#[]⟩) (.slice A (ks.length + 1) l) (.slice A2 kids.length m3)) ∧ Hid (RdA w5 R s k1 5 c) ∧ Hid (w.grownBy w5 (some R))) ⟨HZ.out.store _ _ _ _ _, ((((HR4.out.other (by omega) _).other (by omega) _).other (by omega) _).other (by omega) _).other (by omega) _, gb_new (gb_new (gb_new (gb_new (gb_new HG4.out (Nat.le_refl _) _) (Nat.le_refl _) _) (Nat.le_refl _) _) (Nat.le_refl _) _) (Nat.le_refl _) _⟩ ?_
                intro w5 ⟨HZ5, HR5, HG5⟩
                have y0 := HZ5.out.cell 0 (by omega)
                have y1 := HZ5.out.cell 1 (by omega)
                have y2 := HZ5.out.cell 2 (by omega)
                have y3 := HZ5.out.cell 3 (by omega)
                have y4 := HZ5.out.cell 4 (by omega)
                (try simp only [Exit.inBlock, Exit.then])
                refine bodyPost_ret (v := litV 7 0 [] (.slice A (ks.length + 1) l) (.slice A2 kids.length m3)) ?_ rfl ?_
                · simp [results, Tryz.results39, go_sem, y0, y1, y2, y3, y4]
                  rfl
                · rw [HEQ.out]
                  exact ⟨_, rfl, ⟨_, _, _, _, _, _, _, _, _, rfl⟩, HG5.out, hpos, _, _, HR5.out⟩
              · rw [if_neg hmem] at HRo HEQ
                have c2 := HRo.out.c2
                have hl1 : s.size - k1 ≤ s.size - k := by
                  have h1 := congrArg List.length HD1.out
                  have h2 := skipB_le (s.data.toList.drop k)
                  rw [List.length_drop, List.length_drop, size_list] at h1
                  rw [List.length_drop, size_list] at h2
                  omega
                have hgz := HGo.out.size
                have hzo := HZo.out.lt
                have hxo := HXo.out.lt
                obtain ⟨m2, hm2⟩ : ∃ m, headB (skipB (s.data.toList.drop k1)) = m := ⟨_, rfl⟩
                by_cases h58 : m2 = 58
                · subst h58
                  obtain ⟨y2, u2, hyu, hy⟩ : ∃ y u, skipB (s.data.toList.drop k1) = y :: u ∧ y.toNat = 58 := by
                    cases hz : skipB (s.data.toList.drop k1) with
                    | nil => rw [hz] at hm2; simp [headB] at hm2
                    | cons y u => rw [hz] at hm2; exact ⟨y, u, rfl, hm2⟩
                  have hM := must_yes R s k1 c 58 wo HRo.out hs hk1 hyu hy
                  have HEQ2 : Hid (res = match pJ g2 .val (d + 1) c u2 with
                    | .bad e => .bad e
                    | .ok v r c' => match skipB r with
                      | [] => .bad 1
                      | y :: u => if y.toNat = 125 then .ok (.mk 7 0 [] (ks ++ [x]) (kids ++ [v])) u c' else if y.toNat = 44 then pJ g2 (.obj (ks ++ [x]) (kids ++ [v])) d c' u else .bad 1) := by
                    show _ = _
                    rw [HEQ.out, ← HD1.out, hyu]
                    simp only []
                    rw [if_pos hy]
                    first | rfl | (cases pJ g2 .val (d + 1) c u2 <;> rfl)
                  have hul := skipB_cons hyu
                  rw [List.length_drop, size_list] at hul
                  clear HEQ hyu hm2
                  go_wp2_with fail
                  refine hM.mono ?_
                  rintro y w3 ⟨rfl, hg3, k2, hR3, hk2, hd2⟩
                  clear hM c2
                  have c2 := hR3.c2
                  have s3 := hg3.size
                  have HZ3 := Lib.hid (HZo.out.grown hg3 (by simp; omega))
                  have HX3 := Lib.hid (HXo.out.grown hg3 (by simp; omega))
                  have HK3 := Lib.hid (own_gb HKo.out hg3 (by omega))
                  have HN3 := Lib.hid (own_gb HNo.out hg3 (by omega))
                  have HC3 := Lib.hid (HCo.out.kept s3 (fun b hb hlt => ⟨hb, hg3.block b hlt (by have := hb.1; simp; omega)⟩))
                  have HG3 := Lib.hid (gb_trans HGo.out hg3)
                  have HR3 := Lib.hid hR3
                  have hd3 := congrArg List.length hd2
                  rw [List.length_drop, size_list] at hd3
                  clear hg3 hR3
                  go_upto_region 18 with fail
                  refine wp_gen (fun w7 => Hid (zeroBlk w7 w.heap.size) ∧ Hid (Blk w7 (w.heap.size + 1) (.int .i64 7) (.int .i64 0) (.string ⟨#[]⟩) (.slice A (ks.length + 1) l) (.slice A2 kids.length m3)) ∧ Hid (RdA w7 R s k2 0 c) ∧ Hid (w.grownBy w7 (some R)) ∧ Hid (w7.ownsRow (w.heap.size + 2) 9 1 (.slice A (ks.length + 1) l) (ks ++ [x]).length ((ks ++ [x]).map strVr)) ∧ Hid (w7.ownsRow (w.heap.size + 2) 26 5 (.slice A2 kids.length m3) kids.length xs) ∧ Hid (CIs (rowsOk w (.slice A (ks.length + 1) l) (.slice A2 kids.length m3)) g w7 kids xs))
                    ⟨HZ3, HX3, HR3, HG3, HK3, HN3, HC3⟩ ?_
                  intro w7 ⟨HZ7, HX7, HR7, HG7, HK7, HN7, HC7⟩
                  clear c2 HZ3 HX3 HR3 HG3 HK3 HN3 HC3 HZo HXo HRo HGo HKo HNo HCo s3
                  have hxl := HX7.out.lt
                  have k4 := HX7.out.cell 4 (by omega)
                  have kf := HX7.out.fz 4
                  have hV := fun w h => IH.out g2 (by omega) R s (d + 1) k2 c w hs (by omega) h hk2 (by omega) hcle
                  rw [hd2] at hV
                  have hcd : ((d + 1 : Nat) : Int) = (d : Int) + 1 := by omega
                  have hwr : IntKind.i64.wrap ((d : Int) + 1) = (d : Int) + 1 := by rw [IntKind.wrap_i64]; omega
                  rw [hcd, ← hwr] at hV
                  clear hcd hwr
                  have hklen : kids.length ≤ 200000 := by omega
                  have hGs := HG7.out.size
                  cases hr : pJ g2 .val (d + 1) c u2 with
                  | bad e =>
                    rw [hr] at hV HEQ2
                    simp only [VPost] at hV
                    clear hr
                    go_cut [71] (fun _ wx => ∃ k' c' A9 l9, 0 < e ∧ Hid (zeroBlk wx w.heap.size) ∧ Hid (RdA wx R s k' e c') ∧ Hid (Blk wx (w.heap.size + 1) (.int .i64 7) (.int .i64 0) (.string ⟨#[]⟩) (.slice A (ks.length + 1) l) (.slice A9 (kids.length + 1) l9)) ∧ Hid (w.grownBy wx (some R)))
                    case first =>
                      go_region_law (first
                        | (go_simp; go_at_call 17; refine (hV w7.drew HR7.out).mono ?_; rintro y w1 ⟨v, rfl, hND, hg0, hpos, k', c', hR1⟩; have hg1 := gb_of1 hg0; clear hg0; obtain ⟨kk, nn, tt, A1, l1, n1, A3, l2, n2, rfl⟩ := hND; have own1 := own_gb HN7.out hg1 (by omega); have hs1 := hg1.size; have hX1 := HX7.out.grown hg1 (by simp; omega); have x4 : w1.cell? ⟨w.heap.size + 1, 4, none⟩ = some (.slice A2 kids.length m3) := hX1.cell 4 (by omega); have x5 : ∀ o, (w1.alloc o).cell? ⟨w.heap.size + 1, 4, none⟩ = some (.slice A2 kids.length m3) := fun o => (hX1.grown (gb_alloc (gb_refl _ (some R)) o) (by simp; omega)).cell 4 (by omega))
                        | (refine step_append_lies _ (by rfl) (.tmp 65) (.tmp 70) 24 (by rfl) (w.heap.size + 2) 26 i0 _ 5 80 Tryz.underlying24 hi hz0 hz1 hz2 (by rfl) (by decide) (.slice A2 kids.length m3) kids.length xs (by rfl) (own1.alloc _) ⟨w1.heap.size, 0, none⟩ 1 1 [.int .i64 kk, .int .i64 nn, .string ⟨tt.toArray⟩, .slice A1 l1 n1, .slice A3 l2 n2] (by rfl) rfl (World.news_of_block (heap_alloc_new w1 _)) (news_one _ _ _ _ _ _ _ _ _) (by decide) (by unfold maxLen; omega) (by omega) (by simp; omega) (w1.heap.size + 1) (by simp) ?_; intro gg cap w9 hown9 hgrow9 hat9 hlt9; have hX9 := (hX1.grown (gb_alloc (gb_refl _ (some R)) _) (by simp; omega)).grown hgrow9 (fun e => by have := (own1.lt _ e.symm).1; omega); have k9 := hX9.cell 4 (by omega); have f9 := hX9.fz 4))
                      all_goals
                        go_wp2_with fail
                        go_meet
                        have hA := arr_append_bad (v9 := .slice (some ⟨gg, 0, none⟩) (kids.length + 1) cap) hRX (by omega) HZ7.out HX7.out HN7.out HG7.out hg1 hR1 hgrow9
                        exact ⟨k', c', _, _, hpos, Lib.hid hA.1, Lib.hid hA.2.1, Lib.hid hA.2.2.1, Lib.hid hA.2.2.2⟩
                    case rest =>
                      obtain ⟨k3, c3, A9, l9, hpos, HZ, HR1, HX, HG⟩ := hcut
                      have c2 := HR1.out.c2
                      have q : ((e : Int) != 0) = true := by simp; omega
                      go_upto_region 24 with fail
                      refine wp_gen (fun w4 => Hid (zeroBlk w4 w.heap.size) ∧ Hid (Blk w4 (w.heap.size + 1) (.int .i64 7) (.int .i64 0) (.string ⟨#[]⟩) (.slice A (ks.length + 1) l) (.slice A9 (kids.length + 1) l9)) ∧ Hid (RdA w4 R s k3 e c3) ∧ Hid (w.grownBy w4 (some R)))
                        ⟨HZ, HX, HR1, HG⟩ ?_
                      intro w4 ⟨HZ, HX, HR4, HG4⟩
                      clear c2
                      have z0 := HZ.out.cell 0 (by omega)
                      have z1 := HZ.out.cell 1 (by omega)
                      have z2 := HZ.out.cell 2 (by omega)
                      have z3 := HZ.out.cell 3 (by omega)
                      have z4 := HZ.out.cell 4 (by omega)
                      have f0 := HZ.out.fz
                      have x0 := HX.out.cell 0 (by omega)
                      have x1 := HX.out.cell 1 (by omega)
                      have x2 := HX.out.cell 2 (by omega)
                      have x3 := HX.out.cell 3 (by omega)
                      have x4 := HX.out.cell 4 (by omega)
                      go_wp2
                      refine bp_gen (fun w5 => Hid (Blk w5 w.heap.size (.int .i64 7) (.int .i64 0) (.string ⟨#[]⟩) (.slice A (ks.length + 1) l) (.slice A9 (kids.length + 1) l9)) ∧ Hid (RdA w5 R s k3 e c3) ∧ Hid (w.grownBy w5 (some R))) ⟨HZ.out.store _ _ _ _ _, ((((HR4.out.other (by omega) _).other (by omega) _).other (by omega) _).other (by omega) _).other (by omega) _, gb_new (gb_new (gb_new (gb_new (gb_new HG4.out (Nat.le_refl _) _) (Nat.le_refl _) _) (Nat.le_refl _) _) (Nat.le_refl _) _) (Nat.le_refl _) _⟩ ?_
                      intro w5 ⟨HZ5, HR5, HG5⟩
                      have y0 := HZ5.out.cell 0 (by omega)
                      have y1 := HZ5.out.cell 1 (by omega)
                      have y2 := HZ5.out.cell 2 (by omega)
                      have y3 := HZ5.out.cell 3 (by omega)
                      have y4 := HZ5.out.cell 4 (by omega)
                      (try simp only [Exit.inBlock, Exit.then])
                      refine bodyPost_ret (v := litV 7 0 [] (.slice A (ks.length + 1) l) (.slice A9 (kids.length + 1) l9)) ?_ rfl ?_
                      · simp [results, Tryz.results39, go_sem, y0, y1, y2, y3, y4]
                        rfl
                      · rw [HEQ2.out]
                        exact ⟨_, rfl, ⟨_, _, _, _, _, _, _, _, _, rfl⟩, HG5.out, hpos, _, _, HR5.out⟩
                  | ok t rest c' =>
                    rw [hr] at hV HEQ2
                    simp only [VPost] at hV
                    have hrv := Lib.hid hr
                    clear hr
                    go_cut [71] (fun _ wx => ∃ k' A9 l9 xs', Hid (zeroBlk wx w.heap.size) ∧ Hid (RdA wx R s k' 0 c') ∧ k' ≤ s.size ∧ Hid (s.data.toList.drop k' = rest) ∧ Hid (Blk wx (w.heap.size + 1) (.int .i64 7) (.int .i64 0) (.string ⟨#[]⟩) (.slice A (ks.length + 1) l) (.slice A9 (kids.length + 1) l9)) ∧ Hid (wx.ownsRow (w.heap.size + 2) 9 1 (.slice A (ks.length + 1) l) (ks ++ [x]).length ((ks ++ [x]).map strVr)) ∧ Hid (wx.ownsRow (w.heap.size + 2) 26 5 (.slice A9 (kids.length + 1) l9) (kids.length + 1) xs') ∧ Hid (∀ b, (Value.slice A (ks.length + 1) l).ownBlock = some b → (Value.slice A9 (kids.length + 1) l9).ownBlock ≠ some b) ∧ Hid (CIs (rowsOk w (.slice A (ks.length + 1) l) (.slice A9 (kids.length + 1) l9)) g wx (kids ++ [t]) xs') ∧ Hid (w.grownBy wx (some R)))
                    case first =>
                      go_region_law (first
                        | (go_simp; go_at_call 17; refine (hV w7.drew HR7.out).mono ?_; rintro y w1 ⟨v, rfl, hNI, hg0, k', hR1, hk', hd'⟩; have hg1 := gb_of1 hg0; clear hg0; obtain ⟨kk, nn, tt, A1, l1, n1, A3, l2, n2, rfl⟩ := hNI.nd; have own1 := own_gb HN7.out hg1 (by omega); have hs1 := hg1.size; have hX1 := HX7.out.grown hg1 (by simp; omega); have x4 : w1.cell? ⟨w.heap.size + 1, 4, none⟩ = some (.slice A2 kids.length m3) := hX1.cell 4 (by omega); have x5 : ∀ o, (w1.alloc o).cell? ⟨w.heap.size + 1, 4, none⟩ = some (.slice A2 kids.length m3) := fun o => (hX1.grown (gb_alloc (gb_refl _ (some R)) o) (by simp; omega)).cell 4 (by omega))
                        | (refine step_append_lies _ (by rfl) (.tmp 65) (.tmp 70) 24 (by rfl) (w.heap.size + 2) 26 i0 _ 5 80 Tryz.underlying24 hi hz0 hz1 hz2 (by rfl) (by decide) (.slice A2 kids.length m3) kids.length xs (by rfl) (own1.alloc _) ⟨w1.heap.size, 0, none⟩ 1 1 [.int .i64 kk, .int .i64 nn, .string ⟨tt.toArray⟩, .slice A1 l1 n1, .slice A3 l2 n2] (by rfl) rfl (World.news_of_block (heap_alloc_new w1 _)) (news_one _ _ _ _ _ _ _ _ _) (by decide) (by unfold maxLen; omega) (by omega) (by simp; omega) (w1.heap.size + 1) (by simp) ?_; intro gg cap w9 hown9 hgrow9 hat9 hlt9; have hX9 := (hX1.grown (gb_alloc (gb_refl _ (some R)) _) (by simp; omega)).grown hgrow9 (fun e => by have := (own1.lt _ e.symm).1; omega); have k9 := hX9.cell 4 (by omega); have f9 := hX9.fz 4))
                      all_goals
                        go_wp2_with fail
                        go_meet
                        have hA := obj_append (G := g) hRX HZ7.out HX7.out HK7.out HN7.out HDo.out HC7.out HG7.out hg1 (hNI.mono (by omega)) hR1 hgrow9 hat9 hlt9 hown9
                        exact ⟨k', _, _, _, Lib.hid hA.1, Lib.hid hA.2.1, hk', Lib.hid hd', Lib.hid hA.2.2.1, Lib.hid hA.2.2.2.1, Lib.hid hA.2.2.2.2.1, Lib.hid hA.2.2.2.2.2.1, Lib.hid hA.2.2.2.2.2.2.1, Lib.hid hA.2.2.2.2.2.2.2⟩
                    case rest =>
                      obtain ⟨k3, A9, l9, xs9, HZ, HR1, hk3, HD, HX, HK, HN, HDd, HC, HG⟩ := hcut
                      clear HZ7 HX7 HR7 HG7 HK7 HN7 HC7 HDo hV k4 kf
                      have c2 := HR1.out.c2
                      have hz1 := HZ.out.lt
                      have hx1 := HX.out.lt
                      obtain ⟨m4, hm4⟩ : ∃ m, headB (skipB (s.data.toList.drop k3)) = m := ⟨_, rfl⟩
                      have hN2 := next_hd R s k3 0 c' wc HR1.out hs hk3 hm4
                      have hlen := pJ_ok _ _ _ _ _ _ _ _ hrv.out
                      have hc9 := (pJ_fit _ _ _ _ _ _ _ _ hrv.out).1
                      rw [← HD.out, List.length_drop, size_list] at hlen
                      by_cases h125 : m4 = 125
                      · subst h125
                        obtain ⟨y4, u4, hyu, hy4⟩ : ∃ y u, skipB (s.data.toList.drop k3) = y :: u ∧ y.toNat = 125 := by
                          cases hz : skipB (s.data.toList.drop k3) with
                          | nil => rw [hz] at hm4; simp [headB] at hm4
                          | cons y u => rw [hz] at hm4; exact ⟨y, u, rfl, hm4⟩
                        have HE : Hid (res = .ok (.mk 7 0 [] (ks ++ [x]) (kids ++ [t])) u4 c') := by
                          show _ = _
                          rw [HEQ2.out, ← HD.out]
                          simp only [hyu]
                          rw [if_pos hy4]
                        have HYU := Lib.hid hyu
                        clear HEQ2 hyu hm4
                        go_wp2_with fail
                        refine hN2.mono ?_
                        rintro e w3 ⟨rfl, k5, hR3, hk5, hd5, hg3⟩
                        clear hN2 c2
                        obtain ⟨hlt, hu⟩ := drop_cons (hd5.trans HYU.out)
                        have HU := Lib.hid hu
                        have HR3 := Lib.hid hR3
                        have s3 := hg3.size
                        have hgG := HG.out.size
                        have HG3 := Lib.hid (gb_trans HG.out hg3)
                        have HZ3 := Lib.hid (HZ.out.grown hg3 (by simp; omega))
                        have HX3 := Lib.hid (HX.out.grown hg3 (by simp; omega))
                        have HK3 := own_gb HK.out hg3 (by omega)
                        have HN3 := own_gb HN.out hg3 (by omega)
                        have HC3 := HC.out.kept s3 (fun b hb hlt => ⟨hb, hg3.block b hlt (by have := hb.1; simp; omega)⟩)
                        have c1 := HR3.out.c1
                        have f1 := HR3.out.fz 1 (by omega)
                        have hs3 := HR3.out.set1 (k5 + 1)
                        have hc : ((k5 + 1 : Nat) : Int) = (k5 : Int) + 1 := by omega
                        rw [hc] at hs3
                        have HS3 := Lib.hid hs3
                        have hgs3 : w3.grownBy (w3.setCell ⟨R, 1, none⟩ (.int .i64 ((k5 : Int) + 1))) (some R) := gb_set (gb_refl _ _) _
                        have HK4 := Lib.hid (own_gb HK3 hgs3 (by omega))
                        have HN4 := Lib.hid (own_gb HN3 hgs3 (by omega))
                        have HC4 := Lib.hid (HC3.kept hgs3.size (fun b hb hlt => ⟨hb, hgs3.block b hlt (by have := hb.1; simp; omega)⟩))
                        clear hR3 hd5 hg3 hs3 hc hu hgs3 HK3 HN3 HC3
                        go_upto_region 22 with fail
                        refine wp_gen (fun w4 => Hid (zeroBlk w4 w.heap.size) ∧ Hid (Blk w4 (w.heap.size + 1) (.int .i64 7) (.int .i64 0) (.string ⟨#[]⟩) (.slice A (ks.length + 1) l) (.slice A9 (kids.length + 1) l9)) ∧ Hid (RdA w4 R s (k5 + 1) 0 c') ∧ Hid (w.grownBy w4 (some R)) ∧ Hid (w4.ownsRow (w.heap.size + 2) 9 1 (.slice A (ks.length + 1) l) (ks ++ [x]).length ((ks ++ [x]).map strVr)) ∧ Hid (w4.ownsRow (w.heap.size + 2) 26 5 (.slice A9 (kids.length + 1) l9) (kids.length + 1) xs9) ∧ Hid (CIs (rowsOk w (.slice A (ks.length + 1) l) (.slice A9 (kids.length + 1) l9)) g w4 (kids ++ [t]) xs9))
                          ⟨HZ3.out.other (by omega) _, HX3.out.other (by omega) _, HS3.out, gb_set HG3.out _, HK4, HN4, HC4⟩ ?_
                        intro w4 ⟨HZ, HX, HR4, HG4, HK, HN, HC⟩
                        have z0 := HZ.out.cell 0 (by omega)
                        have z1 := HZ.out.cell 1 (by omega)
                        have z2 := HZ.out.cell 2 (by omega)
                        have z3 := HZ.out.cell 3 (by omega)
                        have z4 := HZ.out.cell 4 (by omega)
                        have f0 := HZ.out.fz
                        have x0 := HX.out.cell 0 (by omega)
                        have x1 := HX.out.cell 1 (by omega)
                        have x2 := HX.out.cell 2 (by omega)
                        have x3 := HX.out.cell 3 (by omega)
                        have x4 := HX.out.cell 4 (by omega)
                        clear c1 f1
                        go_wp2
                        refine bp_gen (fun w5 => Hid (Blk w5 w.heap.size (.int .i64 7) (.int .i64 0) (.string ⟨#[]⟩) (.slice A (ks.length + 1) l) (.slice A9 (kids.length + 1) l9)) ∧ Hid (RdA w5 R s (k5 + 1) 0 c') ∧ Hid (w4.grownBy w5 (some w.heap.size)) ∧ Hid (w.grownBy w5 (some R))) ⟨HZ.out.store _ _ _ _ _, ((((HR4.out.other (by omega) _).other (by omega) _).other (by omega) _).other (by omega) _).other (by omega) _, gb_set (gb_set (gb_set (gb_set (gb_set (gb_refl _ _) _) _) _) _) _, gb_new (gb_new (gb_new (gb_new (gb_new HG4.out (Nat.le_refl _) _) (Nat.le_refl _) _) (Nat.le_refl _) _) (Nat.le_refl _) _) (Nat.le_refl _) _⟩ ?_
                        intro w5 ⟨HZ5, HR5, HGX, HG5⟩
                        have y0 := HZ5.out.cell 0 (by omega)
                        have y1 := HZ5.out.cell 1 (by omega)
                        have y2 := HZ5.out.cell 2 (by omega)
                        have y3 := HZ5.out.cell 3 (by omega)
                        have y4 := HZ5.out.cell 4 (by omega)
                        (try simp only [Exit.inBlock, Exit.then])
                        refine bodyPost_ret (v := litV 7 0 [] (.slice A (ks.length + 1) l) (.slice A9 (kids.length + 1) l9)) ?_ rfl ?_
                        · simp [results, Tryz.results39, go_sem, y0, y1, y2, y3, y4]
                          rfl
                        · rw [HE.out]
                          have hK5 := own_gb HK.out HGX.out (by omega)
                          have hO5 := own_gb HN.out HGX.out (by omega)
                          have hC5 := HC.out.kept (ok' := fun b => w.heap.size ≤ b) HGX.out.size (fun b hb hlt => ⟨by have := hb.1; omega, HGX.out.block b hlt (by have := hb.1; simp; omega)⟩)
                          refine ⟨_, rfl, NIs.of_own (kids := kids ++ [t]) (by rw [List.length_append]; exact hO5) hC5 ?_ (StrAt.of_own (ks := ks ++ [x]) hK5 ?_), HG5.out, k5 + 1, HR5.out, by omega, HU.out.symm⟩
                          · intro g9 hg9
                            have := (hO5.lt g9 hg9).1
                            show w.heap.size ≤ g9
                            omega
                          · intro g9 hg9
                            have := (hK5.lt g9 hg9).1
                            show w.heap.size ≤ g9
                            omega
                      · have q125 : ((m4 : Int) == 125) = false := by simp; omega
                        go_wp2_with fail
                        refine hN2.mono ?_
                        rintro e w3 ⟨rfl, k5, hR3, hk5, hd5, hg3⟩
                        clear hN2
                        by_cases h44 : m4 = 44
                        · subst h44
                          obtain ⟨y4, u4, hyu, hy4⟩ : ∃ y u, skipB (s.data.toList.drop k3) = y :: u ∧ y.toNat = 44 := by
                            cases hz : skipB (s.data.toList.drop k3) with
                            | nil => rw [hz] at hm4; simp [headB] at hm4
                            | cons y u => rw [hz] at hm4; exact ⟨y, u, rfl, hm4⟩
                          have hM := must_yes R s k5 c' 44 w3 hR3 hs hk5 (by rw [hd5, skipB_idem]; exact hyu) hy4
                          have HE : Hid (res = pJ g2 (.obj (ks ++ [x]) (kids ++ [t])) d c' u4) := by
                            show _ = _
                            rw [HEQ2.out, ← HD.out]
                            simp only [hyu]
                            rw [if_neg (by omega), if_pos hy4]
                          have hul2 := skipB_cons hyu
                          rw [List.length_drop, size_list] at hul2
                          clear HEQ2 hd5 hyu
                          go_wp2_with fail
                          refine hM.mono ?_
                          rintro y w4 ⟨rfl, hg4, k6, hR4, hk6, hd6⟩
                          clear hM
                          go_wp2_with fail
                          have hg34 := gb_trans hg3 hg4
                          have hul3 := congrArg List.length hd6
                          rw [List.length_drop, size_list] at hul3
                          have s34 := hg34.size
                          have hlk := HAG.out.lenk
                          have hgG := HG.out.size
                          go_roundw
                          case rel =>
                            refine ⟨Lib.hid (HZ.out.grown hg34 (by simp; omega)), .inl ⟨g2, k6, c', ks ++ [x], kids ++ [t], _, _, xs9, by omega, hc9, Lib.hid ⟨hR4, hk6, HX.out.grown hg34 (by simp; omega), own_gb HK.out hg34 (by omega), ?_, HDd.out, HC.out.kept s34 ?_, ?_, ?_, ?_, ?_, gb_trans HG.out hg34⟩⟩⟩
                            · rw [List.length_append]; exact own_gb HN.out hg34 (by omega)
                            · exact fun b hb hlt => ⟨hb, hg34.block b hlt (by have := hb.1; simp; omega)⟩
                            · rw [HE.out, hd6]
                            · omega
                            · rw [List.length_append]; simp; omega
                            · rw [List.length_append, List.length_append, hlk]; rfl
                          case measure =>
                            rw [left_good hR4, left_good HAG.out.rd]
                            omega
                        · have hM := must_no R s k5 c' 44 w3 hR3 hs hk5 (by intro y u hyu; rw [hd5, skipB_idem] at hyu; rw [hyu] at hm4; simp only [headB] at hm4; omega) (by omega)
                          have HE : Hid (res = .bad 1) := by
                            show _ = _
                            rw [HEQ2.out, ← HD.out]
                            cases hz : skipB (s.data.toList.drop k3) with
                            | nil => rfl
                            | cons y u =>
                              rw [hz] at hm4
                              simp only [headB] at hm4
                              simp only []
                              rw [if_neg (by omega), if_neg (by omega)]
                          clear HEQ2 hd5
                          go_wp2_with fail
                          refine hM.mono ?_
                          rintro y w4 ⟨rfl, hg4, k6, hR4⟩
                          clear hM
                          go_wp2_with fail
                          have hg34 := gb_trans hg3 hg4
                          have hgG := HG.out.size
                          go_roundw
                          case rel =>
                            exact ⟨Lib.hid (HZ.out.grown hg34 (by simp; omega)), .inr ⟨1, k6, c', _, _, _, _, _, _, Lib.hid ⟨hR4, HX.out.grown hg34 (by simp; omega), by omega, HE.out, gb_trans HG.out hg34⟩⟩⟩
                          case measure =>
                            rw [left_bad hR4 (by omega), left_good HAG.out.rd]
                            omega
                · have hM := must_no R s k1 c 58 wo HRo.out hs hk1 (by intro y u hyu; rw [hyu] at hm2; simp only [headB] at hm2; omega) (by omega)
                  have HE : Hid (res = .bad 1) := by
                    show _ = _
                    rw [HEQ.out, ← HD1.out]
                    cases hz : skipB (s.data.toList.drop k1) with
                    | nil => rfl
                    | cons y u =>
                      rw [hz] at hm2
                      simp only [headB] at hm2
                      simp only []
                      rw [if_neg (by omega)]
                  clear HEQ hm2
                  go_wp2_with fail
                  refine hM.mono ?_
                  rintro y w3 ⟨rfl, hg3, k2, hR3⟩
                  clear hM c2
                  have c2 := hR3.c2
                  have hpos : 0 < 1 := by omega
                  go_upto_region 24 with fail
                  refine wp_gen (fun w4 => Hid (zeroBlk w4 w.heap.size) ∧ Hid (Blk w4 (w.heap.size + 1) (.int .i64 7) (.int .i64 0) (.string ⟨#[]⟩) (.slice A (ks.length + 1) l) (.slice A2 kids.length m3)) ∧ Hid (RdA w4 R s k2 1 c) ∧ Hid (w.grownBy w4 (some R)))
                    ⟨Lib.hid (HZo.out.grown hg3 (by simp; omega)), Lib.hid (HXo.out.grown hg3 (by simp; omega)), Lib.hid hR3, Lib.hid (gb_trans HGo.out hg3)⟩ ?_
                  intro w4 ⟨HZ, HX, HR4, HG4⟩
                  clear c2
                  have z0 := HZ.out.cell 0 (by omega)
                  have z1 := HZ.out.cell 1 (by omega)
                  have z2 := HZ.out.cell 2 (by omega)
                  have z3 := HZ.out.cell 3 (by omega)
                  have z4 := HZ.out.cell 4 (by omega)
                  have f0 := HZ.out.fz
                  have x0 := HX.out.cell 0 (by omega)
                  have x1 := HX.out.cell 1 (by omega)
                  have x2 := HX.out.cell 2 (by omega)
                  have x3 := HX.out.cell 3 (by omega)
                  have x4 := HX.out.cell 4 (by omega)
                  go_wp2
                  refine bp_gen (fun w5 => Hid (Blk w5 w.heap.size (.int .i64 7) (.int .i64 0) (.string ⟨#[]⟩) (.slice A (ks.length + 1) l) (.slice A2 kids.length m3)) ∧ Hid (RdA w5 R s k2 1 c) ∧ Hid (w.grownBy w5 (some R))) ⟨HZ.out.store _ _ _ _ _, ((((HR4.out.other (by omega) _).other (by omega) _).other (by omega) _).other (by omega) _).other (by omega) _, gb_new (gb_new (gb_new (gb_new (gb_new HG4.out (Nat.le_refl _) _) (Nat.le_refl _) _) (Nat.le_refl _) _) (Nat.le_refl _) _) (Nat.le_refl _) _⟩ ?_
                  intro w5 ⟨HZ5, HR5, HG5⟩
                  have y0 := HZ5.out.cell 0 (by omega)
                  have y1 := HZ5.out.cell 1 (by omega)
                  have y2 := HZ5.out.cell 2 (by omega)
                  have y3 := HZ5.out.cell 3 (by omega)
                  have y4 := HZ5.out.cell 4 (by omega)
                  (try simp only [Exit.inBlock, Exit.then])
                  refine bodyPost_ret (v := litV 7 0 [] (.slice A (ks.length + 1) l) (.slice A2 kids.length m3)) ?_ rfl ?_
                  · simp [results, Tryz.results39, go_sem, y0, y1, y2, y3, y4]
                    rfl
                  · rw [HE.out]
                    exact ⟨_, rfl, ⟨_, _, _, _, _, _, _, _, _, rfl⟩, HG5.out, hpos, _, _, HR5.out⟩
      · have c2 := HAB.out.rd.c2
        have q : ((e : Int) == 0) = false := by have := HAB.out.pos; simp; omega
        go_upto_region 24 with fail
        refine wp_gen (fun w4 => Hid (zeroBlk w4 w.heap.size) ∧ Hid (Blk w4 (w.heap.size + 1) (.int .i64 7) (.int .i64 0) (.string ⟨#[]⟩) (.slice A l l2) (.slice A2 m2 m3)) ∧ Hid (RdA w4 R s k e c) ∧ Hid (w.grownBy w4 (some R)))
          ⟨HZr, HAB.out.out, HAB.out.rd, HAB.out.gb⟩ ?_
        intro w4 ⟨HZ, HX, HR4, HG4⟩
        clear c2
        have z0 := HZ.out.cell 0 (by omega)
        have z1 := HZ.out.cell 1 (by omega)
        have z2 := HZ.out.cell 2 (by omega)
        have z3 := HZ.out.cell 3 (by omega)
        have z4 := HZ.out.cell 4 (by omega)
        have f0 := HZ.out.fz
        have x0 := HX.out.cell 0 (by omega)
        have x1 := HX.out.cell 1 (by omega)
        have x2 := HX.out.cell 2 (by omega)
        have x3 := HX.out.cell 3 (by omega)
        have x4 := HX.out.cell 4 (by omega)
        go_wp2
        refine bp_gen (fun w5 => Hid (Blk w5 w.heap.size (.int .i64 7) (.int .i64 0) (.string ⟨#[]⟩) (.slice A l l2) (.slice A2 m2 m3)) ∧ Hid (RdA w5 R s k e c) ∧ Hid (w.grownBy w5 (some R))) ⟨HZ.out.store _ _ _ _ _, ((((HR4.out.other (by omega) _).other (by omega) _).other (by omega) _).other (by omega) _).other (by omega) _, gb_new (gb_new (gb_new (gb_new (gb_new HG4.out (Nat.le_refl _) _) (Nat.le_refl _) _) (Nat.le_refl _) _) (Nat.le_refl _) _) (Nat.le_refl _) _⟩ ?_
        intro w5 ⟨HZ5, HR5, HG5⟩
        have y0 := HZ5.out.cell 0 (by omega)
        have y1 := HZ5.out.cell 1 (by omega)
        have y2 := HZ5.out.cell 2 (by omega)
        have y3 := HZ5.out.cell 3 (by omega)
        have y4 := HZ5.out.cell 4 (by omega)
        (try simp only [Exit.inBlock, Exit.then])
        refine bodyPost_ret (v := litV 7 0 [] (.slice A l l2) (.slice A2 m2 m3)) ?_ rfl ?_
        · simp [results, Tryz.results39, go_sem, y0, y1, y2, y3, y4]
          rfl
        · rw [HAB.out.eq]
          exact ⟨_, rfl, ⟨_, _, _, _, _, _, _, _, _, rfl⟩, HG5.out, HAB.out.pos, _, _, HR5.out⟩

end Go.Proofs.YtlaagdpanbineaaGreatDoor

