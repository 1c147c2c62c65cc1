/-
  The document's Good.
-/
import Derived.Test.YtdmgobffhpgjlaaGreatSlRef1
namespace Go.Proofs.YtdmgobffhpgjlaaGreat.Sl
open Go.RowKit Go.PlainAid Go.Proofs.YtdmgobffhpgjlaaGreat.Cr
set_option linter.unusedVariables false
set_option maxRecDepth 20000
set_option linter.unusedSimpArgs false

theorem zdig : (#[.int .u8 0, .int .u8 0, .int .u8 0, .int .u8 0, .int .u8 0, .int .u8 0, .int .u8 0, .int .u8 0, .int .u8 0, .int .u8 0, .int .u8 0, .int .u8 0, .int .u8 0, .int .u8 0, .int .u8 0, .int .u8 0, .int .u8 0, .int .u8 0, .int .u8 0, .int .u8 0, .int .u8 0, .int .u8 0, .int .u8 0, .int .u8 0, .int .u8 0, .int .u8 0, .int .u8 0, .int .u8 0, .int .u8 0, .int .u8 0, .int .u8 0, .int .u8 0] : Array Value) = (dV zeros).toArray := by simp [dV, zeros, List.replicate]
theorem eq_zero {d : List Nat} (hd : Dig d) (w : World) : (Op.equalIn 10000 37 (.agg (dV d).toArray) (.agg #[.int .u8 0, .int .u8 0, .int .u8 0, .int .u8 0, .int .u8 0, .int .u8 0, .int .u8 0, .int .u8 0, .int .u8 0, .int .u8 0, .int .u8 0, .int .u8 0, .int .u8 0, .int .u8 0, .int .u8 0, .int .u8 0, .int .u8 0, .int .u8 0, .int .u8 0, .int .u8 0, .int .u8 0, .int .u8 0, .int .u8 0, .int .u8 0, .int .u8 0, .int .u8 0, .int .u8 0, .int .u8 0, .int .u8 0, .int .u8 0, .int .u8 0, .int .u8 0])).run Tryz.prog w = .ok (decide (d = zeros)) w := by
  rw [zdig]
  exact eq_dig hd zeros_dig 9998 w
theorem isE {s : ByteArray} (h : s.size = 0) : s.toList.isEmpty = true := by
  rw [empty_of h, ByteArray.toList_eq]
  rfl
theorem notE {s : ByteArray} (h : ¬ s.size = 0) : s.toList.isEmpty = false := by
  rw [ByteArray.toList_eq]
  have : s.data.toList.length = s.size := by simp
  cases hc : s.data.toList with
  | nil => rw [hc] at this; simp at this; omega
  | cons a l => rfl
theorem none_of {s : ByteArray} (h : s.size = 0) : s = none8 := empty_of h
set_option maxHeartbeats 1000000 in
theorem rgood_none (x : Sp) (w : World) (hk : ¬ (1 ≤ x.k ∧ x.k ≤ 6)) :
    Calls Tryz.prog 53 #[.agg (slV x)] w fun e w' => e = .returned (.bool (canB x)) ∧ Below w.heap.size w w' := by
  rw [not_k hk]
  have X := At.new w 39 (slV x)
  have F : Below w.heap.size w (w.alloc (.cells (slV x) 39)) := (Below.refl _ _).alloc (Nat.le_refl _) _
  go_enter Tryz.func53, Tryz.ntmps53
  go_upto_region 1 with (fail)
  obtain ⟨B, hB⟩ : ∃ B, B = w.heap.size := ⟨_, rfl⟩
  rw [← hB] at X ⊢
  clear hB
  generalize w.alloc (.cells (slV x) 39) = w1 at X F ⊢
  have c0 : w1.cell? ⟨B, 0, none⟩ = some (.int .i64 x.k) := X.cell 0
  by_cases c : x.k < 1
  · go_wp2
    go_ret
    exact ⟨rfl, F⟩
  · have c' : 6 < x.k := by omega
    go_wp2
    go_ret
    exact ⟨rfl, F⟩
set_option maxHeartbeats 4000000 in
set_option maxRecDepth 100000 in
theorem rgood_bind (x : Sp) (w : World) (hk : x.k = 1) (ok : Okay x) :
    Calls Tryz.prog 53 #[.agg (slV x)] w fun e w' => e = .returned (.bool (canB x)) ∧ Below w.heap.size w w' := by
  have hd := ok.dig
  have z1 := ok.repo
  have z2 := ok.tag
  have z3 := ok.ty
  obtain ⟨r, hr⟩ : ∃ r, canB x = r := ⟨_, rfl⟩
  rw [hr]
  have HR := Lib.hid hr
  clear hr
  have X := At.new w 39 (slV x)
  have F : Below w.heap.size w (w.alloc (.cells (slV x) 39)) := (Below.refl _ _).alloc (Nat.le_refl _) _
  go_enter Tryz.func53, Tryz.ntmps53
  go_upto_region 1 with (fail)
  obtain ⟨B, hB⟩ : ∃ B, B = w.heap.size := ⟨_, rfl⟩
  rw [← hB] at X ⊢
  clear hB
  generalize w.alloc (.cells (slV x) 39) = w1 at X F ⊢
  have c0 : w1.cell? ⟨B, 0, none⟩ = some (.int .i64 1) := (X.cell 0).trans (by rw [sl0, hk])
  have HK := Lib.hid hk
  clear hk
  go_wp2_with fail
  refine (rhas_any 1 _ (by decide)).mono ?_
  rintro e w2 ⟨rfl, G1⟩
  replace X := X.old G1
  replace F := F.trans (G1.mono F.size)
  clear G1 c0
  obtain ⟨w3, S3, Y, G2, Z3⟩ := keep (P := Tryz.prog) (ty := 129) w2 #[.bool false, .bool false, .bool false, .bool false] (layV 1) 129 (by kernel_rfl) rfl (lay_one 1)
  replace X := X.old G2
  replace F := F.trans (G2.mono F.size)
  clear G2 Z3
  go_upto_region 4 with (refine wpl_store S3 rfl rfl rfl rfl rfl ?_)
  clear S3
  generalize w2.heap.size = L at Y ⊢
  have y0 : w3.cell? ⟨L, 0, none⟩ = some (.bool true) := Y.cell 0
  have y1 : w3.cell? ⟨L, 1, none⟩ = some (.bool true) := Y.cell 1
  have y2 : w3.cell? ⟨L, 2, none⟩ = some (.bool true) := Y.cell 2
  have y3 : w3.cell? ⟨L, 3, none⟩ = some (.bool true) := Y.cell 3
  have c1 : w3.cell? ⟨B, 1, none⟩ = some (.string x.repo) := X.cell 1
  have c2 : w3.cell? ⟨B, 2, none⟩ = some (.string x.tag) := X.cell 2
  have c35 : w3.cell? ⟨B, 35, none⟩ = some (.string x.ty) := (X.cell 35).trans (sl35 hd.len)
  have c36 : w3.cell? ⟨B, 36, none⟩ = some (.int .i64 x.sz) := (X.cell 36).trans (sl36 hd.len)
  have c37 : w3.cell? ⟨B, 37, none⟩ = some (.int .i64 x.tm) := (X.cell 37).trans (sl37 hd.len)
  have LD := dig_loads X hd.len
  clear X Y
  have lT : hT 1 = true := rfl
  have lD : hD 1 = true := rfl
  have lM : hM 1 = true := rfl
  have lA : hA 1 = true := rfl
  have LT : Hid (hT x.k = true) := Lib.hid (by rw [HK.out]; rfl)
  have LDD : Hid (hD x.k = true) := Lib.hid (by rw [HK.out]; rfl)
  have LM : Hid (hM x.k = true) := Lib.hid (by rw [HK.out]; rfl)
  have LA : Hid (hA x.k = true) := Lib.hid (by rw [HK.out]; rfl)
  clear lT lD lM lA
  by_cases h1 : 1 ≤ x.repo.size
  · have a1 : (1 : Int) ≤ (x.repo.size : Int) := by omega
    by_cases h2 : x.repo.size ≤ 128
    · have a2 : (x.repo.size : Int) ≤ 128 := by omega
      by_cases h3 : 1 ≤ x.tag.size
      · have a3 : (1 : Int) ≤ (x.tag.size : Int) := by omega
        by_cases h4 : x.tag.size ≤ 128
        · have a4 : (x.tag.size : Int) ≤ 128 := by omega
          go_upto_region 9 with (fail)
          by_cases e0 : x.ty.size ≤ 100
          · have i0 : (x.ty.size : Int) ≤ 100 := by omega
            by_cases e1 : 0 ≤ x.sz
            · have i1 : 0 ≤ x.sz := by omega
              by_cases e2 : x.sz ≤ 1048576
              · have i2 : x.sz ≤ 1048576 := by omega
                by_cases e3 : 0 ≤ x.tm
                · have i3 : 0 ≤ x.tm := by omega
                  by_cases e4 : x.tm ≤ 1099511627776
                  · have i4 : x.tm ≤ 1099511627776 := by omega
                    have er : r = true := by
                      rw [← HR.out]
                      exact canB_yes ⟨by have := HK.out; omega, fun _ => ⟨h1, h2, h3, h4⟩, fun e => (by rw [LT.out] at e; cases e), fun e => (by rw [LDD.out] at e; cases e), fun e => (by rw [LM.out] at e; cases e), fun e => (by rw [LA.out] at e; cases e), e0, ⟨e1, e2⟩, ⟨e3, e4⟩, hd⟩
                    subst er
                    go_wp2
                    go_ret
                    exact ⟨by first | rfl | simp, F⟩
                  · have i4 : ¬ x.tm ≤ 1099511627776 := by omega
                    have er : r = false := by
                      rw [← HR.out]
                      refine canB_no fun c => ?_
                      have := c.tm
                      omega
                    subst er
                    go_wp2
                    go_ret
                    exact ⟨rfl, F⟩
                · have i3 : ¬ 0 ≤ x.tm := by omega
                  have er : r = false := by
                    rw [← HR.out]
                    refine canB_no fun c => ?_
                    have := c.tm
                    omega
                  subst er
                  go_wp2
                  go_ret
                  exact ⟨rfl, F⟩
              · have i2 : ¬ x.sz ≤ 1048576 := by omega
                have er : r = false := by
                  rw [← HR.out]
                  refine canB_no fun c => ?_
                  have := c.sz
                  omega
                subst er
                go_wp2
                go_ret
                exact ⟨rfl, F⟩
            · have i1 : ¬ 0 ≤ x.sz := by omega
              have er : r = false := by
                rw [← HR.out]
                refine canB_no fun c => ?_
                have := c.sz
                omega
              subst er
              go_wp2
              go_ret
              exact ⟨rfl, F⟩
          · have i0 : ¬ (x.ty.size : Int) ≤ 100 := by omega
            have er : r = false := by
              rw [← HR.out]
              refine canB_no fun c => ?_
              have := c.ty
              omega
            subst er
            go_wp2
            go_ret
            exact ⟨rfl, F⟩
        · have a4 : ¬ (x.tag.size : Int) ≤ 128 := by omega
          have er : r = false := by
            rw [← HR.out]
            refine canB_no fun c => ?_
            have := c.names LT.out
            omega
          subst er
          go_wp2
          go_ret
          exact ⟨rfl, F⟩
      · have a3 : ¬ (1 : Int) ≤ (x.tag.size : Int) := by omega
        have er : r = false := by
          rw [← HR.out]
          refine canB_no fun c => ?_
          have := c.names LT.out
          omega
        subst er
        go_wp2
        go_ret
        exact ⟨rfl, F⟩
    · have a2 : ¬ (x.repo.size : Int) ≤ 128 := by omega
      have er : r = false := by
        rw [← HR.out]
        refine canB_no fun c => ?_
        have := c.names LT.out
        omega
      subst er
      go_wp2
      go_ret
      exact ⟨rfl, F⟩
  · have a1 : ¬ (1 : Int) ≤ (x.repo.size : Int) := by omega
    have er : r = false := by
      rw [← HR.out]
      refine canB_no fun c => ?_
      have := c.names LT.out
      omega
    subst er
    go_wp2
    go_ret
    exact ⟨rfl, F⟩
set_option maxHeartbeats 4000000 in
set_option maxRecDepth 100000 in
theorem rgood_miss (x : Sp) (w : World) (hk : x.k = 2) (ok : Okay x) :
    Calls Tryz.prog 53 #[.agg (slV x)] w fun e w' => e = .returned (.bool (canB x)) ∧ Below w.heap.size w w' := by
  have hd := ok.dig
  have z1 := ok.repo
  have z2 := ok.tag
  have z3 := ok.ty
  obtain ⟨r, hr⟩ : ∃ r, canB x = r := ⟨_, rfl⟩
  rw [hr]
  have HR := Lib.hid hr
  clear hr
  have X := At.new w 39 (slV x)
  have F : Below w.heap.size w (w.alloc (.cells (slV x) 39)) := (Below.refl _ _).alloc (Nat.le_refl _) _
  go_enter Tryz.func53, Tryz.ntmps53
  go_upto_region 1 with (fail)
  obtain ⟨B, hB⟩ : ∃ B, B = w.heap.size := ⟨_, rfl⟩
  rw [← hB] at X ⊢
  clear hB
  generalize w.alloc (.cells (slV x) 39) = w1 at X F ⊢
  have c0 : w1.cell? ⟨B, 0, none⟩ = some (.int .i64 2) := (X.cell 0).trans (by rw [sl0, hk])
  have HK := Lib.hid hk
  clear hk
  go_wp2_with fail
  refine (rhas_any 2 _ (by decide)).mono ?_
  rintro e w2 ⟨rfl, G1⟩
  replace X := X.old G1
  replace F := F.trans (G1.mono F.size)
  clear G1 c0
  obtain ⟨w3, S3, Y, G2, Z3⟩ := keep (P := Tryz.prog) (ty := 129) w2 #[.bool false, .bool false, .bool false, .bool false] (layV 2) 129 (by kernel_rfl) rfl (lay_one 2)
  replace X := X.old G2
  replace F := F.trans (G2.mono F.size)
  clear G2 Z3
  go_upto_region 4 with (refine wpl_store S3 rfl rfl rfl rfl rfl ?_)
  clear S3
  generalize w2.heap.size = L at Y ⊢
  have y0 : w3.cell? ⟨L, 0, none⟩ = some (.bool true) := Y.cell 0
  have y1 : w3.cell? ⟨L, 1, none⟩ = some (.bool false) := Y.cell 1
  have y2 : w3.cell? ⟨L, 2, none⟩ = some (.bool false) := Y.cell 2
  have y3 : w3.cell? ⟨L, 3, none⟩ = some (.bool true) := Y.cell 3
  have c1 : w3.cell? ⟨B, 1, none⟩ = some (.string x.repo) := X.cell 1
  have c2 : w3.cell? ⟨B, 2, none⟩ = some (.string x.tag) := X.cell 2
  have c35 : w3.cell? ⟨B, 35, none⟩ = some (.string x.ty) := (X.cell 35).trans (sl35 hd.len)
  have c36 : w3.cell? ⟨B, 36, none⟩ = some (.int .i64 x.sz) := (X.cell 36).trans (sl36 hd.len)
  have c37 : w3.cell? ⟨B, 37, none⟩ = some (.int .i64 x.tm) := (X.cell 37).trans (sl37 hd.len)
  have LD := dig_loads X hd.len
  clear X Y
  have lT : hT 2 = true := rfl
  have lD : hD 2 = false := rfl
  have lM : hM 2 = false := rfl
  have lA : hA 2 = true := rfl
  have LT : Hid (hT x.k = true) := Lib.hid (by rw [HK.out]; rfl)
  have LDD : Hid (hD x.k = false) := Lib.hid (by rw [HK.out]; rfl)
  have LM : Hid (hM x.k = false) := Lib.hid (by rw [HK.out]; rfl)
  have LA : Hid (hA x.k = true) := Lib.hid (by rw [HK.out]; rfl)
  clear lT lD lM lA
  by_cases h1 : 1 ≤ x.repo.size
  · have a1 : (1 : Int) ≤ (x.repo.size : Int) := by omega
    by_cases h2 : x.repo.size ≤ 128
    · have a2 : (x.repo.size : Int) ≤ 128 := by omega
      by_cases h3 : 1 ≤ x.tag.size
      · have a3 : (1 : Int) ≤ (x.tag.size : Int) := by omega
        by_cases h4 : x.tag.size ≤ 128
        · have a4 : (x.tag.size : Int) ≤ 128 := by omega
          have q0 := eq_zero hd
          by_cases hdz : x.dig = zeros
          · rw [decide_eq_true hdz] at q0
            have HDZ := Lib.hid hdz
            clear hdz
            by_cases hty : x.ty.size = 0
            · have eY := isE hty
              have HTY := Lib.hid hty
              clear hty
              by_cases hs0 : x.sz = 0
              · have eS : (x.sz != 0) = false := by simp [hs0]
                have HS0 := Lib.hid hs0
                clear hs0
                go_upto_region 9 with (with_reducible refine wpl_load_in LD ?_ rfl ?_ ?_; (· kernel_rfl); (· kernel_rfl))
                by_cases e0 : x.ty.size ≤ 100
                · have i0 : (x.ty.size : Int) ≤ 100 := by omega
                  by_cases e1 : 0 ≤ x.sz
                  · have i1 : 0 ≤ x.sz := by omega
                    by_cases e2 : x.sz ≤ 1048576
                    · have i2 : x.sz ≤ 1048576 := by omega
                      by_cases e3 : 0 ≤ x.tm
                      · have i3 : 0 ≤ x.tm := by omega
                        by_cases e4 : x.tm ≤ 1099511627776
                        · have i4 : x.tm ≤ 1099511627776 := by omega
                          have er : r = true := by
                            rw [← HR.out]
                            exact canB_yes ⟨by have := HK.out; omega, fun _ => ⟨h1, h2, h3, h4⟩, fun e => (by rw [LT.out] at e; cases e), fun _ => HDZ.out, fun _ => ⟨none_of HTY.out, HS0.out⟩, fun e => (by rw [LA.out] at e; cases e), e0, ⟨e1, e2⟩, ⟨e3, e4⟩, hd⟩
                          subst er
                          go_wp2
                          go_ret
                          exact ⟨by first | rfl | simp, F⟩
                        · have i4 : ¬ x.tm ≤ 1099511627776 := by omega
                          have er : r = false := by
                            rw [← HR.out]
                            refine canB_no fun c => ?_
                            have := c.tm
                            omega
                          subst er
                          go_wp2
                          go_ret
                          exact ⟨rfl, F⟩
                      · have i3 : ¬ 0 ≤ x.tm := by omega
                        have er : r = false := by
                          rw [← HR.out]
                          refine canB_no fun c => ?_
                          have := c.tm
                          omega
                        subst er
                        go_wp2
                        go_ret
                        exact ⟨rfl, F⟩
                    · have i2 : ¬ x.sz ≤ 1048576 := by omega
                      have er : r = false := by
                        rw [← HR.out]
                        refine canB_no fun c => ?_
                        have := c.sz
                        omega
                      subst er
                      go_wp2
                      go_ret
                      exact ⟨rfl, F⟩
                  · have i1 : ¬ 0 ≤ x.sz := by omega
                    have er : r = false := by
                      rw [← HR.out]
                      refine canB_no fun c => ?_
                      have := c.sz
                      omega
                    subst er
                    go_wp2
                    go_ret
                    exact ⟨rfl, F⟩
                · have i0 : ¬ (x.ty.size : Int) ≤ 100 := by omega
                  have er : r = false := by
                    rw [← HR.out]
                    refine canB_no fun c => ?_
                    have := c.ty
                    omega
                  subst er
                  go_wp2
                  go_ret
                  exact ⟨rfl, F⟩
              · have eS : (x.sz != 0) = true := by simp [hs0]
                have er : r = false := by
                  rw [← HR.out]
                  refine canB_no fun c => ?_
                  exact hs0 (c.noMedia LM.out).2
                subst er
                go_wp2_with (with_reducible refine wpl_load_in LD ?_ rfl ?_ ?_; (· kernel_rfl); (· kernel_rfl))
                go_ret
                exact ⟨rfl, F⟩
            · have eY := notE hty
              have er : r = false := by
                rw [← HR.out]
                refine canB_no fun c => ?_
                exact hty (by rw [(c.noMedia LM.out).1]; rfl)
              subst er
              go_wp2_with (with_reducible refine wpl_load_in LD ?_ rfl ?_ ?_; (· kernel_rfl); (· kernel_rfl))
              go_ret
              exact ⟨rfl, F⟩
          · rw [decide_eq_false hdz] at q0
            have er : r = false := by
              rw [← HR.out]
              refine canB_no fun c => ?_
              exact hdz (c.noDig LDD.out)
            subst er
            go_wp2_with (with_reducible refine wpl_load_in LD ?_ rfl ?_ ?_; (· kernel_rfl); (· kernel_rfl))
            go_ret
            exact ⟨rfl, F⟩
        · have a4 : ¬ (x.tag.size : Int) ≤ 128 := by omega
          have er : r = false := by
            rw [← HR.out]
            refine canB_no fun c => ?_
            have := c.names LT.out
            omega
          subst er
          go_wp2
          go_ret
          exact ⟨rfl, F⟩
      · have a3 : ¬ (1 : Int) ≤ (x.tag.size : Int) := by omega
        have er : r = false := by
          rw [← HR.out]
          refine canB_no fun c => ?_
          have := c.names LT.out
          omega
        subst er
        go_wp2
        go_ret
        exact ⟨rfl, F⟩
    · have a2 : ¬ (x.repo.size : Int) ≤ 128 := by omega
      have er : r = false := by
        rw [← HR.out]
        refine canB_no fun c => ?_
        have := c.names LT.out
        omega
      subst er
      go_wp2
      go_ret
      exact ⟨rfl, F⟩
  · have a1 : ¬ (1 : Int) ≤ (x.repo.size : Int) := by omega
    have er : r = false := by
      rw [← HR.out]
      refine canB_no fun c => ?_
      have := c.names LT.out
      omega
    subst er
    go_wp2
    go_ret
    exact ⟨rfl, F⟩
set_option maxHeartbeats 4000000 in
set_option maxRecDepth 100000 in
theorem rgood_drop (x : Sp) (w : World) (hk : x.k = 3) (ok : Okay x) :
    Calls Tryz.prog 53 #[.agg (slV x)] w fun e w' => e = .returned (.bool (canB x)) ∧ Below w.heap.size w w' := by
  have hd := ok.dig
  have z1 := ok.repo
  have z2 := ok.tag
  have z3 := ok.ty
  obtain ⟨r, hr⟩ : ∃ r, canB x = r := ⟨_, rfl⟩
  rw [hr]
  have HR := Lib.hid hr
  clear hr
  have X := At.new w 39 (slV x)
  have F : Below w.heap.size w (w.alloc (.cells (slV x) 39)) := (Below.refl _ _).alloc (Nat.le_refl _) _
  go_enter Tryz.func53, Tryz.ntmps53
  go_upto_region 1 with (fail)
  obtain ⟨B, hB⟩ : ∃ B, B = w.heap.size := ⟨_, rfl⟩
  rw [← hB] at X ⊢
  clear hB
  generalize w.alloc (.cells (slV x) 39) = w1 at X F ⊢
  have c0 : w1.cell? ⟨B, 0, none⟩ = some (.int .i64 3) := (X.cell 0).trans (by rw [sl0, hk])
  have HK := Lib.hid hk
  clear hk
  go_wp2_with fail
  refine (rhas_any 3 _ (by decide)).mono ?_
  rintro e w2 ⟨rfl, G1⟩
  replace X := X.old G1
  replace F := F.trans (G1.mono F.size)
  clear G1 c0
  obtain ⟨w3, S3, Y, G2, Z3⟩ := keep (P := Tryz.prog) (ty := 129) w2 #[.bool false, .bool false, .bool false, .bool false] (layV 3) 129 (by kernel_rfl) rfl (lay_one 3)
  replace X := X.old G2
  replace F := F.trans (G2.mono F.size)
  clear G2 Z3
  go_upto_region 4 with (refine wpl_store S3 rfl rfl rfl rfl rfl ?_)
  clear S3
  generalize w2.heap.size = L at Y ⊢
  have y0 : w3.cell? ⟨L, 0, none⟩ = some (.bool true) := Y.cell 0
  have y1 : w3.cell? ⟨L, 1, none⟩ = some (.bool false) := Y.cell 1
  have y2 : w3.cell? ⟨L, 2, none⟩ = some (.bool false) := Y.cell 2
  have y3 : w3.cell? ⟨L, 3, none⟩ = some (.bool false) := Y.cell 3
  have c1 : w3.cell? ⟨B, 1, none⟩ = some (.string x.repo) := X.cell 1
  have c2 : w3.cell? ⟨B, 2, none⟩ = some (.string x.tag) := X.cell 2
  have c35 : w3.cell? ⟨B, 35, none⟩ = some (.string x.ty) := (X.cell 35).trans (sl35 hd.len)
  have c36 : w3.cell? ⟨B, 36, none⟩ = some (.int .i64 x.sz) := (X.cell 36).trans (sl36 hd.len)
  have c37 : w3.cell? ⟨B, 37, none⟩ = some (.int .i64 x.tm) := (X.cell 37).trans (sl37 hd.len)
  have LD := dig_loads X hd.len
  clear X Y
  have lT : hT 3 = true := rfl
  have lD : hD 3 = false := rfl
  have lM : hM 3 = false := rfl
  have lA : hA 3 = false := rfl
  have LT : Hid (hT x.k = true) := Lib.hid (by rw [HK.out]; rfl)
  have LDD : Hid (hD x.k = false) := Lib.hid (by rw [HK.out]; rfl)
  have LM : Hid (hM x.k = false) := Lib.hid (by rw [HK.out]; rfl)
  have LA : Hid (hA x.k = false) := Lib.hid (by rw [HK.out]; rfl)
  clear lT lD lM lA
  by_cases h1 : 1 ≤ x.repo.size
  · have a1 : (1 : Int) ≤ (x.repo.size : Int) := by omega
    by_cases h2 : x.repo.size ≤ 128
    · have a2 : (x.repo.size : Int) ≤ 128 := by omega
      by_cases h3 : 1 ≤ x.tag.size
      · have a3 : (1 : Int) ≤ (x.tag.size : Int) := by omega
        by_cases h4 : x.tag.size ≤ 128
        · have a4 : (x.tag.size : Int) ≤ 128 := by omega
          have q0 := eq_zero hd
          by_cases hdz : x.dig = zeros
          · rw [decide_eq_true hdz] at q0
            have HDZ := Lib.hid hdz
            clear hdz
            by_cases hty : x.ty.size = 0
            · have eY := isE hty
              have HTY := Lib.hid hty
              clear hty
              by_cases hs0 : x.sz = 0
              · have eS : (x.sz != 0) = false := by simp [hs0]
                have HS0 := Lib.hid hs0
                clear hs0
                by_cases ha0 : x.tm = 0
                · have eA : (x.tm != 0) = false := by simp [ha0]
                  have HA0 := Lib.hid ha0
                  clear ha0
                  go_upto_region 9 with (with_reducible refine wpl_load_in LD ?_ rfl ?_ ?_; (· kernel_rfl); (· kernel_rfl))
                  by_cases e0 : x.ty.size ≤ 100
                  · have i0 : (x.ty.size : Int) ≤ 100 := by omega
                    by_cases e1 : 0 ≤ x.sz
                    · have i1 : 0 ≤ x.sz := by omega
                      by_cases e2 : x.sz ≤ 1048576
                      · have i2 : x.sz ≤ 1048576 := by omega
                        by_cases e3 : 0 ≤ x.tm
                        · have i3 : 0 ≤ x.tm := by omega
                          by_cases e4 : x.tm ≤ 1099511627776
                          · have i4 : x.tm ≤ 1099511627776 := by omega
                            have er : r = true := by
                              rw [← HR.out]
                              exact canB_yes ⟨by have := HK.out; omega, fun _ => ⟨h1, h2, h3, h4⟩, fun e => (by rw [LT.out] at e; cases e), fun _ => HDZ.out, fun _ => ⟨none_of HTY.out, HS0.out⟩, fun _ => HA0.out, e0, ⟨e1, e2⟩, ⟨e3, e4⟩, hd⟩
                            subst er
                            go_wp2
                            go_ret
                            exact ⟨by first | rfl | simp, F⟩
                          · have i4 : ¬ x.tm ≤ 1099511627776 := by omega
                            have er : r = false := by
                              rw [← HR.out]
                              refine canB_no fun c => ?_
                              have := c.tm
                              omega
                            subst er
                            go_wp2
                            go_ret
                            exact ⟨rfl, F⟩
                        · have i3 : ¬ 0 ≤ x.tm := by omega
                          have er : r = false := by
                            rw [← HR.out]
                            refine canB_no fun c => ?_
                            have := c.tm
                            omega
                          subst er
                          go_wp2
                          go_ret
                          exact ⟨rfl, F⟩
                      · have i2 : ¬ x.sz ≤ 1048576 := by omega
                        have er : r = false := by
                          rw [← HR.out]
                          refine canB_no fun c => ?_
                          have := c.sz
                          omega
                        subst er
                        go_wp2
                        go_ret
                        exact ⟨rfl, F⟩
                    · have i1 : ¬ 0 ≤ x.sz := by omega
                      have er : r = false := by
                        rw [← HR.out]
                        refine canB_no fun c => ?_
                        have := c.sz
                        omega
                      subst er
                      go_wp2
                      go_ret
                      exact ⟨rfl, F⟩
                  · have i0 : ¬ (x.ty.size : Int) ≤ 100 := by omega
                    have er : r = false := by
                      rw [← HR.out]
                      refine canB_no fun c => ?_
                      have := c.ty
                      omega
                    subst er
                    go_wp2
                    go_ret
                    exact ⟨rfl, F⟩
                · have eA : (x.tm != 0) = true := by simp [ha0]
                  have er : r = false := by
                    rw [← HR.out]
                    refine canB_no fun c => ?_
                    exact ha0 (c.noTime LA.out)
                  subst er
                  go_wp2_with (with_reducible refine wpl_load_in LD ?_ rfl ?_ ?_; (· kernel_rfl); (· kernel_rfl))
                  go_ret
                  exact ⟨rfl, F⟩
              · have eS : (x.sz != 0) = true := by simp [hs0]
                have er : r = false := by
                  rw [← HR.out]
                  refine canB_no fun c => ?_
                  exact hs0 (c.noMedia LM.out).2
                subst er
                go_wp2_with (with_reducible refine wpl_load_in LD ?_ rfl ?_ ?_; (· kernel_rfl); (· kernel_rfl))
                go_ret
                exact ⟨rfl, F⟩
            · have eY := notE hty
              have er : r = false := by
                rw [← HR.out]
                refine canB_no fun c => ?_
                exact hty (by rw [(c.noMedia LM.out).1]; rfl)
              subst er
              go_wp2_with (with_reducible refine wpl_load_in LD ?_ rfl ?_ ?_; (· kernel_rfl); (· kernel_rfl))
              go_ret
              exact ⟨rfl, F⟩
          · rw [decide_eq_false hdz] at q0
            have er : r = false := by
              rw [← HR.out]
              refine canB_no fun c => ?_
              exact hdz (c.noDig LDD.out)
            subst er
            go_wp2_with (with_reducible refine wpl_load_in LD ?_ rfl ?_ ?_; (· kernel_rfl); (· kernel_rfl))
            go_ret
            exact ⟨rfl, F⟩
        · have a4 : ¬ (x.tag.size : Int) ≤ 128 := by omega
          have er : r = false := by
            rw [← HR.out]
            refine canB_no fun c => ?_
            have := c.names LT.out
            omega
          subst er
          go_wp2
          go_ret
          exact ⟨rfl, F⟩
      · have a3 : ¬ (1 : Int) ≤ (x.tag.size : Int) := by omega
        have er : r = false := by
          rw [← HR.out]
          refine canB_no fun c => ?_
          have := c.names LT.out
          omega
        subst er
        go_wp2
        go_ret
        exact ⟨rfl, F⟩
    · have a2 : ¬ (x.repo.size : Int) ≤ 128 := by omega
      have er : r = false := by
        rw [← HR.out]
        refine canB_no fun c => ?_
        have := c.names LT.out
        omega
      subst er
      go_wp2
      go_ret
      exact ⟨rfl, F⟩
  · have a1 : ¬ (1 : Int) ≤ (x.repo.size : Int) := by omega
    have er : r = false := by
      rw [← HR.out]
      refine canB_no fun c => ?_
      have := c.names LT.out
      omega
    subst er
    go_wp2
    go_ret
    exact ⟨rfl, F⟩
set_option maxHeartbeats 4000000 in
set_option maxRecDepth 100000 in
theorem rgood_blob (x : Sp) (w : World) (hk : x.k = 4) (ok : Okay x) :
    Calls Tryz.prog 53 #[.agg (slV x)] w fun e w' => e = .returned (.bool (canB x)) ∧ Below w.heap.size w w' := by
  have hd := ok.dig
  have z1 := ok.repo
  have z2 := ok.tag
  have z3 := ok.ty
  obtain ⟨r, hr⟩ : ∃ r, canB x = r := ⟨_, rfl⟩
  rw [hr]
  have HR := Lib.hid hr
  clear hr
  have X := At.new w 39 (slV x)
  have F : Below w.heap.size w (w.alloc (.cells (slV x) 39)) := (Below.refl _ _).alloc (Nat.le_refl _) _
  go_enter Tryz.func53, Tryz.ntmps53
  go_upto_region 1 with (fail)
  obtain ⟨B, hB⟩ : ∃ B, B = w.heap.size := ⟨_, rfl⟩
  rw [← hB] at X ⊢
  clear hB
  generalize w.alloc (.cells (slV x) 39) = w1 at X F ⊢
  have c0 : w1.cell? ⟨B, 0, none⟩ = some (.int .i64 4) := (X.cell 0).trans (by rw [sl0, hk])
  have HK := Lib.hid hk
  clear hk
  go_wp2_with fail
  refine (rhas_any 4 _ (by decide)).mono ?_
  rintro e w2 ⟨rfl, G1⟩
  replace X := X.old G1
  replace F := F.trans (G1.mono F.size)
  clear G1 c0
  obtain ⟨w3, S3, Y, G2, Z3⟩ := keep (P := Tryz.prog) (ty := 129) w2 #[.bool false, .bool false, .bool false, .bool false] (layV 4) 129 (by kernel_rfl) rfl (lay_one 4)
  replace X := X.old G2
  replace F := F.trans (G2.mono F.size)
  clear G2 Z3
  go_upto_region 4 with (refine wpl_store S3 rfl rfl rfl rfl rfl ?_)
  clear S3
  generalize w2.heap.size = L at Y ⊢
  have y0 : w3.cell? ⟨L, 0, none⟩ = some (.bool false) := Y.cell 0
  have y1 : w3.cell? ⟨L, 1, none⟩ = some (.bool true) := Y.cell 1
  have y2 : w3.cell? ⟨L, 2, none⟩ = some (.bool true) := Y.cell 2
  have y3 : w3.cell? ⟨L, 3, none⟩ = some (.bool false) := Y.cell 3
  have c1 : w3.cell? ⟨B, 1, none⟩ = some (.string x.repo) := X.cell 1
  have c2 : w3.cell? ⟨B, 2, none⟩ = some (.string x.tag) := X.cell 2
  have c35 : w3.cell? ⟨B, 35, none⟩ = some (.string x.ty) := (X.cell 35).trans (sl35 hd.len)
  have c36 : w3.cell? ⟨B, 36, none⟩ = some (.int .i64 x.sz) := (X.cell 36).trans (sl36 hd.len)
  have c37 : w3.cell? ⟨B, 37, none⟩ = some (.int .i64 x.tm) := (X.cell 37).trans (sl37 hd.len)
  have LD := dig_loads X hd.len
  clear X Y
  have lT : hT 4 = false := rfl
  have lD : hD 4 = true := rfl
  have lM : hM 4 = true := rfl
  have lA : hA 4 = false := rfl
  have LT : Hid (hT x.k = false) := Lib.hid (by rw [HK.out]; rfl)
  have LDD : Hid (hD x.k = true) := Lib.hid (by rw [HK.out]; rfl)
  have LM : Hid (hM x.k = true) := Lib.hid (by rw [HK.out]; rfl)
  have LA : Hid (hA x.k = false) := Lib.hid (by rw [HK.out]; rfl)
  clear lT lD lM lA
  by_cases hrz : x.repo.size = 0
  · have a1 : ¬ (1 : Int) ≤ (x.repo.size : Int) := by omega
    have eR := isE hrz
    have HRZ := Lib.hid hrz
    clear hrz
    by_cases htz : x.tag.size = 0
    · have eT := isE htz
      have HTZ := Lib.hid htz
      clear htz
      by_cases ha0 : x.tm = 0
      · have eA : (x.tm != 0) = false := by simp [ha0]
        have HA0 := Lib.hid ha0
        clear ha0
        go_upto_region 9 with (fail)
        by_cases e0 : x.ty.size ≤ 100
        · have i0 : (x.ty.size : Int) ≤ 100 := by omega
          by_cases e1 : 0 ≤ x.sz
          · have i1 : 0 ≤ x.sz := by omega
            by_cases e2 : x.sz ≤ 1048576
            · have i2 : x.sz ≤ 1048576 := by omega
              by_cases e3 : 0 ≤ x.tm
              · have i3 : 0 ≤ x.tm := by omega
                by_cases e4 : x.tm ≤ 1099511627776
                · have i4 : x.tm ≤ 1099511627776 := by omega
                  have er : r = true := by
                    rw [← HR.out]
                    exact canB_yes ⟨by have := HK.out; omega, fun e => (by rw [LT.out] at e; cases e), fun _ => ⟨none_of HRZ.out, none_of HTZ.out⟩, fun e => (by rw [LDD.out] at e; cases e), fun e => (by rw [LM.out] at e; cases e), fun _ => HA0.out, e0, ⟨e1, e2⟩, ⟨e3, e4⟩, hd⟩
                  subst er
                  go_wp2
                  go_ret
                  exact ⟨by first | rfl | simp, F⟩
                · have i4 : ¬ x.tm ≤ 1099511627776 := by omega
                  have er : r = false := by
                    rw [← HR.out]
                    refine canB_no fun c => ?_
                    have := c.tm
                    omega
                  subst er
                  go_wp2
                  go_ret
                  exact ⟨rfl, F⟩
              · have i3 : ¬ 0 ≤ x.tm := by omega
                have er : r = false := by
                  rw [← HR.out]
                  refine canB_no fun c => ?_
                  have := c.tm
                  omega
                subst er
                go_wp2
                go_ret
                exact ⟨rfl, F⟩
            · have i2 : ¬ x.sz ≤ 1048576 := by omega
              have er : r = false := by
                rw [← HR.out]
                refine canB_no fun c => ?_
                have := c.sz
                omega
              subst er
              go_wp2
              go_ret
              exact ⟨rfl, F⟩
          · have i1 : ¬ 0 ≤ x.sz := by omega
            have er : r = false := by
              rw [← HR.out]
              refine canB_no fun c => ?_
              have := c.sz
              omega
            subst er
            go_wp2
            go_ret
            exact ⟨rfl, F⟩
        · have i0 : ¬ (x.ty.size : Int) ≤ 100 := by omega
          have er : r = false := by
            rw [← HR.out]
            refine canB_no fun c => ?_
            have := c.ty
            omega
          subst er
          go_wp2
          go_ret
          exact ⟨rfl, F⟩
      · have eA : (x.tm != 0) = true := by simp [ha0]
        have er : r = false := by
          rw [← HR.out]
          refine canB_no fun c => ?_
          exact ha0 (c.noTime LA.out)
        subst er
        go_wp2
        go_ret
        exact ⟨rfl, F⟩
    · have eT := notE htz
      have er : r = false := by
        rw [← HR.out]
        refine canB_no fun c => ?_
        have h1 := c.noNames LT.out
        have h2 : x.repo.size = 0 := by rw [h1.1]; rfl
        have h3 : x.tag.size = 0 := by rw [h1.2]; rfl
        omega
      subst er
      go_wp2
      go_ret
      exact ⟨rfl, F⟩
  · have a1 : (1 : Int) ≤ (x.repo.size : Int) := by omega
    have eR := notE hrz
    by_cases h2 : x.repo.size ≤ 128
    · have a2 : (x.repo.size : Int) ≤ 128 := by omega
      by_cases h3 : 1 ≤ x.tag.size
      · have a3 : (1 : Int) ≤ (x.tag.size : Int) := by omega
        by_cases h4 : x.tag.size ≤ 128
        · have a4 : (x.tag.size : Int) ≤ 128 := by omega
          have er : r = false := by
            rw [← HR.out]
            refine canB_no fun c => ?_
            have h1 := c.noNames LT.out
            have h2 : x.repo.size = 0 := by rw [h1.1]; rfl
            have h3 : x.tag.size = 0 := by rw [h1.2]; rfl
            omega
          subst er
          go_wp2
          go_ret
          exact ⟨rfl, F⟩
        · have a4 : ¬ (x.tag.size : Int) ≤ 128 := by omega
          have er : r = false := by
            rw [← HR.out]
            refine canB_no fun c => ?_
            have h1 := c.noNames LT.out
            have h2 : x.repo.size = 0 := by rw [h1.1]; rfl
            have h3 : x.tag.size = 0 := by rw [h1.2]; rfl
            omega
          subst er
          go_wp2
          go_ret
          exact ⟨rfl, F⟩
      · have a3 : ¬ (1 : Int) ≤ (x.tag.size : Int) := by omega
        have er : r = false := by
          rw [← HR.out]
          refine canB_no fun c => ?_
          have h1 := c.noNames LT.out
          have h2 : x.repo.size = 0 := by rw [h1.1]; rfl
          have h3 : x.tag.size = 0 := by rw [h1.2]; rfl
          omega
        subst er
        go_wp2
        go_ret
        exact ⟨rfl, F⟩
    · have a2 : ¬ (x.repo.size : Int) ≤ 128 := by omega
      have er : r = false := by
        rw [← HR.out]
        refine canB_no fun c => ?_
        have h1 := c.noNames LT.out
        have h2 : x.repo.size = 0 := by rw [h1.1]; rfl
        have h3 : x.tag.size = 0 := by rw [h1.2]; rfl
        omega
      subst er
      go_wp2
      go_ret
      exact ⟨rfl, F⟩
set_option maxHeartbeats 4000000 in
set_option maxRecDepth 100000 in
theorem rgood_gone (x : Sp) (w : World) (hk : x.k = 5) (ok : Okay x) :
    Calls Tryz.prog 53 #[.agg (slV x)] w fun e w' => e = .returned (.bool (canB x)) ∧ Below w.heap.size w w' := by
  have hd := ok.dig
  have z1 := ok.repo
  have z2 := ok.tag
  have z3 := ok.ty
  obtain ⟨r, hr⟩ : ∃ r, canB x = r := ⟨_, rfl⟩
  rw [hr]
  have HR := Lib.hid hr
  clear hr
  have X := At.new w 39 (slV x)
  have F : Below w.heap.size w (w.alloc (.cells (slV x) 39)) := (Below.refl _ _).alloc (Nat.le_refl _) _
  go_enter Tryz.func53, Tryz.ntmps53
  go_upto_region 1 with (fail)
  obtain ⟨B, hB⟩ : ∃ B, B = w.heap.size := ⟨_, rfl⟩
  rw [← hB] at X ⊢
  clear hB
  generalize w.alloc (.cells (slV x) 39) = w1 at X F ⊢
  have c0 : w1.cell? ⟨B, 0, none⟩ = some (.int .i64 5) := (X.cell 0).trans (by rw [sl0, hk])
  have HK := Lib.hid hk
  clear hk
  go_wp2_with fail
  refine (rhas_any 5 _ (by decide)).mono ?_
  rintro e w2 ⟨rfl, G1⟩
  replace X := X.old G1
  replace F := F.trans (G1.mono F.size)
  clear G1 c0
  obtain ⟨w3, S3, Y, G2, Z3⟩ := keep (P := Tryz.prog) (ty := 129) w2 #[.bool false, .bool false, .bool false, .bool false] (layV 5) 129 (by kernel_rfl) rfl (lay_one 5)
  replace X := X.old G2
  replace F := F.trans (G2.mono F.size)
  clear G2 Z3
  go_upto_region 4 with (refine wpl_store S3 rfl rfl rfl rfl rfl ?_)
  clear S3
  generalize w2.heap.size = L at Y ⊢
  have y0 : w3.cell? ⟨L, 0, none⟩ = some (.bool false) := Y.cell 0
  have y1 : w3.cell? ⟨L, 1, none⟩ = some (.bool true) := Y.cell 1
  have y2 : w3.cell? ⟨L, 2, none⟩ = some (.bool false) := Y.cell 2
  have y3 : w3.cell? ⟨L, 3, none⟩ = some (.bool false) := Y.cell 3
  have c1 : w3.cell? ⟨B, 1, none⟩ = some (.string x.repo) := X.cell 1
  have c2 : w3.cell? ⟨B, 2, none⟩ = some (.string x.tag) := X.cell 2
  have c35 : w3.cell? ⟨B, 35, none⟩ = some (.string x.ty) := (X.cell 35).trans (sl35 hd.len)
  have c36 : w3.cell? ⟨B, 36, none⟩ = some (.int .i64 x.sz) := (X.cell 36).trans (sl36 hd.len)
  have c37 : w3.cell? ⟨B, 37, none⟩ = some (.int .i64 x.tm) := (X.cell 37).trans (sl37 hd.len)
  have LD := dig_loads X hd.len
  clear X Y
  have lT : hT 5 = false := rfl
  have lD : hD 5 = true := rfl
  have lM : hM 5 = false := rfl
  have lA : hA 5 = false := rfl
  have LT : Hid (hT x.k = false) := Lib.hid (by rw [HK.out]; rfl)
  have LDD : Hid (hD x.k = true) := Lib.hid (by rw [HK.out]; rfl)
  have LM : Hid (hM x.k = false) := Lib.hid (by rw [HK.out]; rfl)
  have LA : Hid (hA x.k = false) := Lib.hid (by rw [HK.out]; rfl)
  clear lT lD lM lA
  by_cases hrz : x.repo.size = 0
  · have a1 : ¬ (1 : Int) ≤ (x.repo.size : Int) := by omega
    have eR := isE hrz
    have HRZ := Lib.hid hrz
    clear hrz
    by_cases htz : x.tag.size = 0
    · have eT := isE htz
      have HTZ := Lib.hid htz
      clear htz
      by_cases hty : x.ty.size = 0
      · have eY := isE hty
        have HTY := Lib.hid hty
        clear hty
        by_cases hs0 : x.sz = 0
        · have eS : (x.sz != 0) = false := by simp [hs0]
          have HS0 := Lib.hid hs0
          clear hs0
          by_cases ha0 : x.tm = 0
          · have eA : (x.tm != 0) = false := by simp [ha0]
            have HA0 := Lib.hid ha0
            clear ha0
            go_upto_region 9 with (fail)
            by_cases e0 : x.ty.size ≤ 100
            · have i0 : (x.ty.size : Int) ≤ 100 := by omega
              by_cases e1 : 0 ≤ x.sz
              · have i1 : 0 ≤ x.sz := by omega
                by_cases e2 : x.sz ≤ 1048576
                · have i2 : x.sz ≤ 1048576 := by omega
                  by_cases e3 : 0 ≤ x.tm
                  · have i3 : 0 ≤ x.tm := by omega
                    by_cases e4 : x.tm ≤ 1099511627776
                    · have i4 : x.tm ≤ 1099511627776 := by omega
                      have er : r = true := by
                        rw [← HR.out]
                        exact canB_yes ⟨by have := HK.out; omega, fun e => (by rw [LT.out] at e; cases e), fun _ => ⟨none_of HRZ.out, none_of HTZ.out⟩, fun e => (by rw [LDD.out] at e; cases e), fun _ => ⟨none_of HTY.out, HS0.out⟩, fun _ => HA0.out, e0, ⟨e1, e2⟩, ⟨e3, e4⟩, hd⟩
                      subst er
                      go_wp2
                      go_ret
                      exact ⟨by first | rfl | simp, F⟩
                    · have i4 : ¬ x.tm ≤ 1099511627776 := by omega
                      have er : r = false := by
                        rw [← HR.out]
                        refine canB_no fun c => ?_
                        have := c.tm
                        omega
                      subst er
                      go_wp2
                      go_ret
                      exact ⟨rfl, F⟩
                  · have i3 : ¬ 0 ≤ x.tm := by omega
                    have er : r = false := by
                      rw [← HR.out]
                      refine canB_no fun c => ?_
                      have := c.tm
                      omega
                    subst er
                    go_wp2
                    go_ret
                    exact ⟨rfl, F⟩
                · have i2 : ¬ x.sz ≤ 1048576 := by omega
                  have er : r = false := by
                    rw [← HR.out]
                    refine canB_no fun c => ?_
                    have := c.sz
                    omega
                  subst er
                  go_wp2
                  go_ret
                  exact ⟨rfl, F⟩
              · have i1 : ¬ 0 ≤ x.sz := by omega
                have er : r = false := by
                  rw [← HR.out]
                  refine canB_no fun c => ?_
                  have := c.sz
                  omega
                subst er
                go_wp2
                go_ret
                exact ⟨rfl, F⟩
            · have i0 : ¬ (x.ty.size : Int) ≤ 100 := by omega
              have er : r = false := by
                rw [← HR.out]
                refine canB_no fun c => ?_
                have := c.ty
                omega
              subst er
              go_wp2
              go_ret
              exact ⟨rfl, F⟩
          · have eA : (x.tm != 0) = true := by simp [ha0]
            have er : r = false := by
              rw [← HR.out]
              refine canB_no fun c => ?_
              exact ha0 (c.noTime LA.out)
            subst er
            go_wp2
            go_ret
            exact ⟨rfl, F⟩
        · have eS : (x.sz != 0) = true := by simp [hs0]
          have er : r = false := by
            rw [← HR.out]
            refine canB_no fun c => ?_
            exact hs0 (c.noMedia LM.out).2
          subst er
          go_wp2
          go_ret
          exact ⟨rfl, F⟩
      · have eY := notE hty
        have er : r = false := by
          rw [← HR.out]
          refine canB_no fun c => ?_
          exact hty (by rw [(c.noMedia LM.out).1]; rfl)
        subst er
        go_wp2
        go_ret
        exact ⟨rfl, F⟩
    · have eT := notE htz
      have er : r = false := by
        rw [← HR.out]
        refine canB_no fun c => ?_
        have h1 := c.noNames LT.out
        have h2 : x.repo.size = 0 := by rw [h1.1]; rfl
        have h3 : x.tag.size = 0 := by rw [h1.2]; rfl
        omega
      subst er
      go_wp2
      go_ret
      exact ⟨rfl, F⟩
  · have a1 : (1 : Int) ≤ (x.repo.size : Int) := by omega
    have eR := notE hrz
    by_cases h2 : x.repo.size ≤ 128
    · have a2 : (x.repo.size : Int) ≤ 128 := by omega
      by_cases h3 : 1 ≤ x.tag.size
      · have a3 : (1 : Int) ≤ (x.tag.size : Int) := by omega
        by_cases h4 : x.tag.size ≤ 128
        · have a4 : (x.tag.size : Int) ≤ 128 := by omega
          have er : r = false := by
            rw [← HR.out]
            refine canB_no fun c => ?_
            have h1 := c.noNames LT.out
            have h2 : x.repo.size = 0 := by rw [h1.1]; rfl
            have h3 : x.tag.size = 0 := by rw [h1.2]; rfl
            omega
          subst er
          go_wp2
          go_ret
          exact ⟨rfl, F⟩
        · have a4 : ¬ (x.tag.size : Int) ≤ 128 := by omega
          have er : r = false := by
            rw [← HR.out]
            refine canB_no fun c => ?_
            have h1 := c.noNames LT.out
            have h2 : x.repo.size = 0 := by rw [h1.1]; rfl
            have h3 : x.tag.size = 0 := by rw [h1.2]; rfl
            omega
          subst er
          go_wp2
          go_ret
          exact ⟨rfl, F⟩
      · have a3 : ¬ (1 : Int) ≤ (x.tag.size : Int) := by omega
        have er : r = false := by
          rw [← HR.out]
          refine canB_no fun c => ?_
          have h1 := c.noNames LT.out
          have h2 : x.repo.size = 0 := by rw [h1.1]; rfl
          have h3 : x.tag.size = 0 := by rw [h1.2]; rfl
          omega
        subst er
        go_wp2
        go_ret
        exact ⟨rfl, F⟩
    · have a2 : ¬ (x.repo.size : Int) ≤ 128 := by omega
      have er : r = false := by
        rw [← HR.out]
        refine canB_no fun c => ?_
        have h1 := c.noNames LT.out
        have h2 : x.repo.size = 0 := by rw [h1.1]; rfl
        have h3 : x.tag.size = 0 := by rw [h1.2]; rfl
        omega
      subst er
      go_wp2
      go_ret
      exact ⟨rfl, F⟩
set_option maxHeartbeats 4000000 in
set_option maxRecDepth 100000 in
theorem rgood_touch (x : Sp) (w : World) (hk : x.k = 6) (ok : Okay x) :
    Calls Tryz.prog 53 #[.agg (slV x)] w fun e w' => e = .returned (.bool (canB x)) ∧ Below w.heap.size w w' := by
  have hd := ok.dig
  have z1 := ok.repo
  have z2 := ok.tag
  have z3 := ok.ty
  obtain ⟨r, hr⟩ : ∃ r, canB x = r := ⟨_, rfl⟩
  rw [hr]
  have HR := Lib.hid hr
  clear hr
  have X := At.new w 39 (slV x)
  have F : Below w.heap.size w (w.alloc (.cells (slV x) 39)) := (Below.refl _ _).alloc (Nat.le_refl _) _
  go_enter Tryz.func53, Tryz.ntmps53
  go_upto_region 1 with (fail)
  obtain ⟨B, hB⟩ : ∃ B, B = w.heap.size := ⟨_, rfl⟩
  rw [← hB] at X ⊢
  clear hB
  generalize w.alloc (.cells (slV x) 39) = w1 at X F ⊢
  have c0 : w1.cell? ⟨B, 0, none⟩ = some (.int .i64 6) := (X.cell 0).trans (by rw [sl0, hk])
  have HK := Lib.hid hk
  clear hk
  go_wp2_with fail
  refine (rhas_any 6 _ (by decide)).mono ?_
  rintro e w2 ⟨rfl, G1⟩
  replace X := X.old G1
  replace F := F.trans (G1.mono F.size)
  clear G1 c0
  obtain ⟨w3, S3, Y, G2, Z3⟩ := keep (P := Tryz.prog) (ty := 129) w2 #[.bool false, .bool false, .bool false, .bool false] (layV 6) 129 (by kernel_rfl) rfl (lay_one 6)
  replace X := X.old G2
  replace F := F.trans (G2.mono F.size)
  clear G2 Z3
  go_upto_region 4 with (refine wpl_store S3 rfl rfl rfl rfl rfl ?_)
  clear S3
  generalize w2.heap.size = L at Y ⊢
  have y0 : w3.cell? ⟨L, 0, none⟩ = some (.bool false) := Y.cell 0
  have y1 : w3.cell? ⟨L, 1, none⟩ = some (.bool true) := Y.cell 1
  have y2 : w3.cell? ⟨L, 2, none⟩ = some (.bool false) := Y.cell 2
  have y3 : w3.cell? ⟨L, 3, none⟩ = some (.bool false) := Y.cell 3
  have c1 : w3.cell? ⟨B, 1, none⟩ = some (.string x.repo) := X.cell 1
  have c2 : w3.cell? ⟨B, 2, none⟩ = some (.string x.tag) := X.cell 2
  have c35 : w3.cell? ⟨B, 35, none⟩ = some (.string x.ty) := (X.cell 35).trans (sl35 hd.len)
  have c36 : w3.cell? ⟨B, 36, none⟩ = some (.int .i64 x.sz) := (X.cell 36).trans (sl36 hd.len)
  have c37 : w3.cell? ⟨B, 37, none⟩ = some (.int .i64 x.tm) := (X.cell 37).trans (sl37 hd.len)
  have LD := dig_loads X hd.len
  clear X Y
  have lT : hT 6 = false := rfl
  have lD : hD 6 = true := rfl
  have lM : hM 6 = false := rfl
  have lA : hA 6 = false := rfl
  have LT : Hid (hT x.k = false) := Lib.hid (by rw [HK.out]; rfl)
  have LDD : Hid (hD x.k = true) := Lib.hid (by rw [HK.out]; rfl)
  have LM : Hid (hM x.k = false) := Lib.hid (by rw [HK.out]; rfl)
  have LA : Hid (hA x.k = false) := Lib.hid (by rw [HK.out]; rfl)
  clear lT lD lM lA
  by_cases hrz : x.repo.size = 0
  · have a1 : ¬ (1 : Int) ≤ (x.repo.size : Int) := by omega
    have eR := isE hrz
    have HRZ := Lib.hid hrz
    clear hrz
    by_cases htz : x.tag.size = 0
    · have eT := isE htz
      have HTZ := Lib.hid htz
      clear htz
      by_cases hty : x.ty.size = 0
      · have eY := isE hty
        have HTY := Lib.hid hty
        clear hty
        by_cases hs0 : x.sz = 0
        · have eS : (x.sz != 0) = false := by simp [hs0]
          have HS0 := Lib.hid hs0
          clear hs0
          by_cases ha0 : x.tm = 0
          · have eA : (x.tm != 0) = false := by simp [ha0]
            have HA0 := Lib.hid ha0
            clear ha0
            go_upto_region 9 with (fail)
            by_cases e0 : x.ty.size ≤ 100
            · have i0 : (x.ty.size : Int) ≤ 100 := by omega
              by_cases e1 : 0 ≤ x.sz
              · have i1 : 0 ≤ x.sz := by omega
                by_cases e2 : x.sz ≤ 1048576
                · have i2 : x.sz ≤ 1048576 := by omega
                  by_cases e3 : 0 ≤ x.tm
                  · have i3 : 0 ≤ x.tm := by omega
                    by_cases e4 : x.tm ≤ 1099511627776
                    · have i4 : x.tm ≤ 1099511627776 := by omega
                      have er : r = true := by
                        rw [← HR.out]
                        exact canB_yes ⟨by have := HK.out; omega, fun e => (by rw [LT.out] at e; cases e), fun _ => ⟨none_of HRZ.out, none_of HTZ.out⟩, fun e => (by rw [LDD.out] at e; cases e), fun _ => ⟨none_of HTY.out, HS0.out⟩, fun _ => HA0.out, e0, ⟨e1, e2⟩, ⟨e3, e4⟩, hd⟩
                      subst er
                      go_wp2
                      go_ret
                      exact ⟨by first | rfl | simp, F⟩
                    · have i4 : ¬ x.tm ≤ 1099511627776 := by omega
                      have er : r = false := by
                        rw [← HR.out]
                        refine canB_no fun c => ?_
                        have := c.tm
                        omega
                      subst er
                      go_wp2
                      go_ret
                      exact ⟨rfl, F⟩
                  · have i3 : ¬ 0 ≤ x.tm := by omega
                    have er : r = false := by
                      rw [← HR.out]
                      refine canB_no fun c => ?_
                      have := c.tm
                      omega
                    subst er
                    go_wp2
                    go_ret
                    exact ⟨rfl, F⟩
                · have i2 : ¬ x.sz ≤ 1048576 := by omega
                  have er : r = false := by
                    rw [← HR.out]
                    refine canB_no fun c => ?_
                    have := c.sz
                    omega
                  subst er
                  go_wp2
                  go_ret
                  exact ⟨rfl, F⟩
              · have i1 : ¬ 0 ≤ x.sz := by omega
                have er : r = false := by
                  rw [← HR.out]
                  refine canB_no fun c => ?_
                  have := c.sz
                  omega
                subst er
                go_wp2
                go_ret
                exact ⟨rfl, F⟩
            · have i0 : ¬ (x.ty.size : Int) ≤ 100 := by omega
              have er : r = false := by
                rw [← HR.out]
                refine canB_no fun c => ?_
                have := c.ty
                omega
              subst er
              go_wp2
              go_ret
              exact ⟨rfl, F⟩
          · have eA : (x.tm != 0) = true := by simp [ha0]
            have er : r = false := by
              rw [← HR.out]
              refine canB_no fun c => ?_
              exact ha0 (c.noTime LA.out)
            subst er
            go_wp2
            go_ret
            exact ⟨rfl, F⟩
        · have eS : (x.sz != 0) = true := by simp [hs0]
          have er : r = false := by
            rw [← HR.out]
            refine canB_no fun c => ?_
            exact hs0 (c.noMedia LM.out).2
          subst er
          go_wp2
          go_ret
          exact ⟨rfl, F⟩
      · have eY := notE hty
        have er : r = false := by
          rw [← HR.out]
          refine canB_no fun c => ?_
          exact hty (by rw [(c.noMedia LM.out).1]; rfl)
        subst er
        go_wp2
        go_ret
        exact ⟨rfl, F⟩
    · have eT := notE htz
      have er : r = false := by
        rw [← HR.out]
        refine canB_no fun c => ?_
        have h1 := c.noNames LT.out
        have h2 : x.repo.size = 0 := by rw [h1.1]; rfl
        have h3 : x.tag.size = 0 := by rw [h1.2]; rfl
        omega
      subst er
      go_wp2
      go_ret
      exact ⟨rfl, F⟩
  · have a1 : (1 : Int) ≤ (x.repo.size : Int) := by omega
    have eR := notE hrz
    by_cases h2 : x.repo.size ≤ 128
    · have a2 : (x.repo.size : Int) ≤ 128 := by omega
      by_cases h3 : 1 ≤ x.tag.size
      · have a3 : (1 : Int) ≤ (x.tag.size : Int) := by omega
        by_cases h4 : x.tag.size ≤ 128
        · have a4 : (x.tag.size : Int) ≤ 128 := by omega
          have er : r = false := by
            rw [← HR.out]
            refine canB_no fun c => ?_
            have h1 := c.noNames LT.out
            have h2 : x.repo.size = 0 := by rw [h1.1]; rfl
            have h3 : x.tag.size = 0 := by rw [h1.2]; rfl
            omega
          subst er
          go_wp2
          go_ret
          exact ⟨rfl, F⟩
        · have a4 : ¬ (x.tag.size : Int) ≤ 128 := by omega
          have er : r = false := by
            rw [← HR.out]
            refine canB_no fun c => ?_
            have h1 := c.noNames LT.out
            have h2 : x.repo.size = 0 := by rw [h1.1]; rfl
            have h3 : x.tag.size = 0 := by rw [h1.2]; rfl
            omega
          subst er
          go_wp2
          go_ret
          exact ⟨rfl, F⟩
      · have a3 : ¬ (1 : Int) ≤ (x.tag.size : Int) := by omega
        have er : r = false := by
          rw [← HR.out]
          refine canB_no fun c => ?_
          have h1 := c.noNames LT.out
          have h2 : x.repo.size = 0 := by rw [h1.1]; rfl
          have h3 : x.tag.size = 0 := by rw [h1.2]; rfl
          omega
        subst er
        go_wp2
        go_ret
        exact ⟨rfl, F⟩
    · have a2 : ¬ (x.repo.size : Int) ≤ 128 := by omega
      have er : r = false := by
        rw [← HR.out]
        refine canB_no fun c => ?_
        have h1 := c.noNames LT.out
        have h2 : x.repo.size = 0 := by rw [h1.1]; rfl
        have h3 : x.tag.size = 0 := by rw [h1.2]; rfl
        omega
      subst er
      go_wp2
      go_ret
      exact ⟨rfl, F⟩
theorem rgood_any (x : Sp) (w : World) (ok : Okay x) :
    Calls Tryz.prog 53 #[.agg (slV x)] w fun e w' => e = .returned (.bool (canB x)) ∧ Below w.heap.size w w' := by
  by_cases hk : 1 ≤ x.k ∧ x.k ≤ 6
  · have : x.k = 1 ∨ x.k = 2 ∨ x.k = 3 ∨ x.k = 4 ∨ x.k = 5 ∨ x.k = 6 := by omega
    rcases this with e | e | e | e | e | e
    · exact rgood_bind x w e ok
    · exact rgood_miss x w e ok
    · exact rgood_drop x w e ok
    · exact rgood_blob x w e ok
    · exact rgood_gone x w e ok
    · exact rgood_touch x w e ok
  · exact rgood_none x w hk
end Go.Proofs.YtdmgobffhpgjlaaGreat.Sl
