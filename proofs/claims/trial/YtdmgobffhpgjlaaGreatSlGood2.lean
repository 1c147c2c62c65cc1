/-
  Contracts of Good, the program's.
-/
import Derived.Test.YtdmgobffhpgjlaaGreatSlGood
namespace Go.Proofs.YtdmgobffhpgjlaaGreat.Sl
open Go.RowKit Go.PlainAid Go.Proofs.YtdmgobffhpgjlaaGreat.Cr
set_option linter.unusedVariables false
set_option maxRecDepth 20000
set_option linter.unusedSimpArgs false

theorem only_any (x : Sp) (w : World) (hk : 1 ≤ x.k ∧ x.k ≤ 6) (hd : Dig x.dig) :
    Calls Tryz.prog 97 #[.agg (layV x.k), .agg (slV x)] w fun e w' => e = .returned (.agg (slV (onlyS x))) ∧ Below w.heap.size w w' := by
  have : x.k = 1 ∨ x.k = 2 ∨ x.k = 3 ∨ x.k = 4 ∨ x.k = 5 ∨ x.k = 6 := by omega
  rcases this with e | e | e | e | e | e <;> rw [e]
  · exact only_bind x w e hd
  · exact only_miss x w e hd
  · exact only_drop x w e hd
  · exact only_blob x w e hd
  · exact only_gone x w e hd
  · exact only_touch x w e hd
theorem only_dig {x : Sp} (hd : Dig x.dig) : Dig (onlyS x).dig := by
  unfold onlyS
  dsimp only
  split
  · exact hd
  · exact zeros_dig
def nameB (s : ByteArray) (m : Int) : Bool := decide (1 ≤ (s.size : Int)) && decide ((s.size : Int) ≤ m)
def numB (n m : Int) : Bool := decide (0 ≤ n) && decide (n ≤ m)
theorem only_iff (x : Sp) : x = onlyS x ↔ (hT x.k = false → x.repo = none8 ∧ x.tag = none8) ∧ (hD x.k = false → x.dig = zeros) ∧ (hM x.k = false → x.ty = none8 ∧ x.sz = 0) ∧ (hA x.k = false → x.tm = 0) := by
  obtain ⟨k, r, t, d, m, s, a⟩ := x
  unfold onlyS
  dsimp only
  cases hT k <;> cases hD k <;> cases hM k <;> cases hA k <;> simp <;> try simp [and_assoc]
open Classical in
theorem can_of {x : Sp} (hd : Dig x.dig) (hk : 1 ≤ x.k ∧ x.k ≤ 6) (hn : hT x.k = true → nameB x.repo 128 = true ∧ nameB x.tag 128 = true) (ht : x.ty.size ≤ 100) (hs : numB x.sz 1048576 = true) (ha : numB x.tm 1099511627776 = true) : canB x = decide (x = onlyS x) := by
  unfold canB
  rw [decide_eq_decide]
  constructor
  · intro h
    exact (only_iff x).2 ⟨h.noNames, h.noDig, h.noMedia, h.noTime⟩
  · intro h
    obtain ⟨h1, h2, h3, h4⟩ := (only_iff x).1 h
    unfold nameB at hn
    unfold numB at hs ha
    simp only [Bool.and_eq_true, decide_eq_true_eq] at hn hs ha
    exact ⟨hk, fun e => by have := hn e; omega, h1, h2, h3, h4, ht, hs, ha, hd⟩
theorem not_k {x : Sp} (hk : ¬ (1 ≤ x.k ∧ x.k ≤ 6)) : canB x = false := canB_no fun h => hk h.k
theorem not_repo {x : Sp} (e : hT x.k = true) (h : nameB x.repo 128 = false) : canB x = false := canB_no fun c => by
  have := c.names e
  unfold nameB at h
  simp only [Bool.and_eq_false_iff, decide_eq_false_iff_not] at h
  omega
theorem not_tag {x : Sp} (e : hT x.k = true) (h : nameB x.tag 128 = false) : canB x = false := canB_no fun c => by
  have := c.names e
  unfold nameB at h
  simp only [Bool.and_eq_false_iff, decide_eq_false_iff_not] at h
  omega
theorem not_ty {x : Sp} (h : ¬ x.ty.size ≤ 100) : canB x = false := canB_no fun c => h c.ty
theorem not_sz {x : Sp} (h : numB x.sz 1048576 = false) : canB x = false := canB_no fun c => by
  have := c.sz
  unfold numB at h
  simp only [Bool.and_eq_false_iff, decide_eq_false_iff_not] at h
  omega
theorem not_tm {x : Sp} (h : numB x.tm 1099511627776 = false) : canB x = false := canB_no fun c => by
  have := c.tm
  unfold numB at h
  simp only [Bool.and_eq_false_iff, decide_eq_false_iff_not] at h
  omega
theorem eq_lay (k : Int) (w : World) : (Op.equalIn 10000 146 (.agg (layV k)) (.agg #[.bool false, .bool false, .bool false, .bool false])).run Tryz.prog w = .ok (!(hT k || hD k || hM k || hA k)) w := by
  have hf : (Tryz.prog.fieldsOf 146).toList = [⟨ "tag", 4, 0, false, "", "manciple/slip", 0⟩, ⟨ "digest", 4, 1, false, "", "manciple/slip", 1⟩, ⟨ "media", 4, 2, false, "", "manciple/slip", 2⟩, ⟨ "time", 4, 3, false, "", "manciple/slip", 3⟩] := by kernel_rfl
  rw [run_equalIn_struct w 9999 146 (layV k) _ (by kernel_rfl) (by kernel_rfl), hf]
  clear hf
  have p := fun (cs : Array Value) (j : Nat) (v : Value) (h : cs[j]? = some v) => part_one (P := Tryz.prog) Tryz.underlying4 rfl h
  have q := fun (a b : Bool) => run_equalIn_bool' (P := Tryz.prog) w 9998 4 a b Tryz.underlying4
  simp only [Op.eqFields, Sem.run_bind, Sem.run_ite, Sem.run_pure, Result.andThen_ok, p (layV k) 0 (.bool (hT k)) rfl, p (layV k) 1 (.bool (hD k)) rfl, p (layV k) 2 (.bool (hM k)) rfl, p (layV k) 3 (.bool (hA k)) rfl, p #[.bool false, .bool false, .bool false, .bool false] 0 (.bool false) rfl, p #[.bool false, .bool false, .bool false, .bool false] 1 (.bool false) rfl, p #[.bool false, .bool false, .bool false, .bool false] 2 (.bool false) rfl, p #[.bool false, .bool false, .bool false, .bool false] 3 (.bool false) rfl, q]
  cases hT k <;> cases hD k <;> cases hM k <;> cases hA k <;> simp
theorem lay_some {k : Int} (h : 1 ≤ k ∧ k ≤ 6) : (!(hT k || hD k || hM k || hA k)) = false := by
  have : k = 1 ∨ k = 2 ∨ k = 3 ∨ k = 4 ∨ k = 5 ∨ k = 6 := by omega
  rcases this with e | e | e | e | e | e <;> subst e <;> rfl
theorem lay_none {k : Int} (h : ¬ (1 ≤ k ∧ k ≤ 6)) : (!(hT k || hD k || hM k || hA k)) = true := by
  have h1 : k ≠ 1 ∧ k ≠ 2 ∧ k ≠ 3 ∧ k ≠ 4 ∧ k ≠ 5 ∧ k ≠ 6 := by omega
  obtain ⟨h1, h2, h3, h4, h5, h6⟩ := h1
  simp [hT, hD, hM, hA, h1, h2, h3, h4, h5, h6]
/-- what Good holds in memory -/
structure Gd (w0 w : World) (B L : Nat) (x : Sp) : Prop where
  sx : At w B 39 (slV x)
  ly : At w L 146 (layV x.k)
  bel : Below w0.heap.size w0 w
theorem Gd.below {w0 w w' : World} {B L : Nat} {x : Sp} (h : Gd w0 w B L x) (hb : Below w.heap.size w w') : Gd w0 w' B L x := ⟨h.sx.old hb, h.ly.old hb, h.bel.trans (hb.mono h.bel.size)⟩
theorem Gd.drew {w0 w : World} {B L : Nat} {x : Sp} (h : Gd w0 w B L x) : Gd w0 w.drew B L x := ⟨h.sx.drew, h.ly.drew, h.bel.drew⟩
set_option maxHeartbeats 4000000 in
theorem good_none (x : Sp) (w : World) (hk : ¬ (1 ≤ x.k ∧ x.k ≤ 6)) :
    Calls Tryz.prog 72 #[.agg (slV x)] w fun e w' => e = .returned (.bool (canB x)) ∧ Below w.heap.size w w' := by
  rw [not_k hk]
  have q0 := eq_lay x.k
  rw [lay_none hk] at q0
  have X := At.new w 39 (slV x)
  have F : Below w.heap.size w (w.alloc (.cells (slV x) 39)) := (Below.refl _ _).alloc (Nat.le_refl _) _
  go_enter Tryz.func72, Tryz.ntmps72
  go_upto_region 1 with (fail)
  obtain ⟨B, hB⟩ : ∃ B, B = w.heap.size := ⟨_, rfl⟩
  rw [← hB] at X ⊢
  generalize w.alloc (.cells (slV x) 39) = w1 at X F ⊢
  have HB := Lib.hid hB
  clear hB
  have c0 : w1.cell? ⟨B, 0, none⟩ = some (.int .i64 x.k) := X.cell 0
  go_wp2_with fail
  refine (layout_any x.k _).mono ?_
  rintro e w2 ⟨rfl, G1⟩
  replace X := X.old G1
  replace F := F.trans (G1.mono F.size)
  clear G1 c0
  obtain ⟨w3, S3, Y, G2, Z3⟩ := keep (P := Tryz.prog) (ty := 146) w2 #[.bool false, .bool false, .bool false, .bool false] (layV x.k) 146 (by kernel_rfl) rfl (lay_one x.k)
  replace X := X.old G2
  replace F := F.trans (G2.mono F.size)
  have LY := Y.loads (P := Tryz.prog) (ty := 146) (by kernel_rfl) (by kernel_rfl)
  clear G2 Z3
  go_upto_region 2 with (refine wpl_store S3 rfl rfl rfl rfl rfl ?_)
  clear S3
  generalize w2.heap.size = L at Y LY ⊢
  have G : Gd w w3 B L x := ⟨X, Y, F⟩
  clear X F
  go_wp2_with (refine wpl_load LY rfl rfl rfl ?_)
  go_ret
  exact ⟨rfl, G.bel⟩
structure Okay (x : Sp) : Prop where
  repo : x.repo.size ≤ 9223372036854775807
  tag : x.tag.size ≤ 9223372036854775807
  ty : x.ty.size ≤ 9223372036854775807
  dig : Dig x.dig
set_option maxHeartbeats 4000000 in
theorem good_names (x : Sp) (w : World) (hk : 1 ≤ x.k ∧ x.k ≤ 6) (eT : hT x.k = true) (ok : Okay x) :
    Calls Tryz.prog 72 #[.agg (slV x)] w fun e w' => e = .returned (.bool (canB x)) ∧ Below w.heap.size w w' := by
  have hd := ok.dig
  have hod := only_dig hd
  have z1 := ok.repo
  have z2 := ok.tag
  have z3 := ok.ty
  have q0 := eq_lay x.k
  rw [lay_some hk] at q0
  obtain ⟨r, hr⟩ : ∃ r, canB x = r := ⟨_, rfl⟩
  rw [hr]
  have HR := Lib.hid hr
  clear hr
  have X := At.new w 39 (slV x)
  have F : Below w.heap.size w (w.alloc (.cells (slV x) 39)) := (Below.refl _ _).alloc (Nat.le_refl _) _
  go_enter Tryz.func72, Tryz.ntmps72
  go_upto_region 1 with (fail)
  obtain ⟨B, hB⟩ : ∃ B, B = w.heap.size := ⟨_, rfl⟩
  rw [← hB] at X ⊢
  generalize w.alloc (.cells (slV x) 39) = w1 at X F ⊢
  have HB := Lib.hid hB
  clear hB
  have c0 : w1.cell? ⟨B, 0, none⟩ = some (.int .i64 x.k) := X.cell 0
  go_wp2_with fail
  refine (layout_any x.k _).mono ?_
  rintro e w2 ⟨rfl, G1⟩
  replace X := X.old G1
  replace F := F.trans (G1.mono F.size)
  clear G1 c0
  obtain ⟨w3, S3, Y, G2, Z3⟩ := keep (P := Tryz.prog) (ty := 146) w2 #[.bool false, .bool false, .bool false, .bool false] (layV x.k) 146 (by kernel_rfl) rfl (lay_one x.k)
  replace X := X.old G2
  replace F := F.trans (G2.mono F.size)
  have LY := Y.loads (P := Tryz.prog) (ty := 146) (by kernel_rfl) (by kernel_rfl)
  clear G2 Z3
  go_upto_region 2 with (refine wpl_store S3 rfl rfl rfl rfl rfl ?_)
  clear S3
  generalize w2.heap.size = L at Y LY ⊢
  have G : Gd w w3 B L x := ⟨X, Y, F⟩
  clear X F
  go_upto_region 4 with (refine wpl_load LY rfl rfl rfl ?_)
  clear LY q0
  have y0 : w3.cell? ⟨L, 0, none⟩ = some (.bool true) := by rw [Y.cell]; show some (Value.bool (hT x.k)) = _; rw [eT]
  have c1 : w3.cell? ⟨B, 1, none⟩ = some (.string x.repo) := G.sx.cell 1
  have c2 : w3.cell? ⟨B, 2, none⟩ = some (.string x.tag) := G.sx.cell 2
  have c35 : w3.cell? ⟨B, 35, none⟩ = some (.string x.ty) := (G.sx.cell 35).trans (sl35 hd.len)
  have c36 : w3.cell? ⟨B, 36, none⟩ = some (.int .i64 x.sz) := (G.sx.cell 36).trans (sl36 hd.len)
  have c37 : w3.cell? ⟨B, 37, none⟩ = some (.int .i64 x.tm) := (G.sx.cell 37).trans (sl37 hd.len)
  clear Y
  go_wp2_with fail
  refine (isName_any x.repo 128 _ z1).mono ?_
  rintro e w' ⟨rfl, rfl⟩
  rw [show (decide (1 ≤ (x.repo.size : Int)) && decide ((x.repo.size : Int) ≤ 128)) = nameB x.repo 128 from rfl]
  cases n1 : nameB x.repo 128 with
  | false =>
    have er : r = false := by rw [← HR.out]; exact not_repo eT n1
    subst er
    clear n1
    go_wp2
    go_ret
    exact ⟨rfl, G.bel⟩
  | true =>
    have N1 := Lib.hid n1
    clear n1
    go_wp2_with fail
    refine (isName_any x.tag 128 _ z2).mono ?_
    rintro e w' ⟨rfl, rfl⟩
    rw [show (decide (1 ≤ (x.tag.size : Int)) && decide ((x.tag.size : Int) ≤ 128)) = nameB x.tag 128 from rfl]
    cases n2 : nameB x.tag 128 with
    | false =>
      have er : r = false := by rw [← HR.out]; exact not_tag eT n2
      subst er
      clear n2
      go_wp2
      go_ret
      exact ⟨rfl, G.bel⟩
    | true =>
      have N2 : Hid (hT x.k = true → nameB x.repo 128 = true ∧ nameB x.tag 128 = true) := Lib.hid fun _ => ⟨N1.out, n2⟩
      clear n2 N1 c1 c2
      by_cases ht : x.ty.size ≤ 100
      · have l1 : (x.ty.size : Int) ≤ 100 := by omega
        go_wp2_with fail
        refine (isNumber_any x.sz 1048576 _).mono ?_
        rintro e w' ⟨rfl, rfl⟩
        rw [show (decide (0 ≤ x.sz) && decide (x.sz ≤ 1048576)) = numB x.sz 1048576 from rfl]
        cases n3 : numB x.sz 1048576 with
        | false =>
          have er : r = false := by rw [← HR.out]; exact not_sz n3
          subst er
          clear n3
          go_wp2
          go_ret
          exact ⟨rfl, G.bel⟩
        | true =>
          have N3 := Lib.hid n3
          clear n3
          go_wp2_with fail
          refine (isNumber_any x.tm 1099511627776 _).mono ?_
          rintro e w' ⟨rfl, rfl⟩
          rw [show (decide (0 ≤ x.tm) && decide (x.tm ≤ 1099511627776)) = numB x.tm 1099511627776 from rfl]
          cases n4 : numB x.tm 1099511627776 with
          | false =>
            have er : r = false := by rw [← HR.out]; exact not_tm n4
            subst er
            clear n4
            go_wp2
            go_ret
            exact ⟨rfl, G.bel⟩
          | true =>
            obtain ⟨q, hq⟩ : ∃ q, @decide (x = onlyS x) (Classical.propDecidable _) = q := ⟨_, rfl⟩
            have er : r = q := by rw [← HR.out, can_of hd hk N2.out ht N3.out n4, hq]
            subst er
            clear n4 N2 N3 HR
            go_upto_region 8 with (fail)
            refine wp_region_held (S := fun y => Gd w y B L x) (by kernel_rfl) ?_
            change wpAnyH _ _ _ _ _ _ _ _ w3.drew
            replace G := G.drew
            clear c35 c36 c37
            generalize w3.drew = w4 at G ⊢
            have LX : Hid (∀ y, Gd w y B L x → Loads Tryz.prog y 39 ⟨B, 0, none⟩ (slV x)) := Lib.hid fun y j => sl_loads j.sx hd.len
            have LL : Hid (∀ y, Gd w y B L x → Loads Tryz.prog y 146 ⟨L, 0, none⟩ (layV x.k)) := Lib.hid fun y j => j.ly.loads (by kernel_rfl) (by kernel_rfl)
            have q1 := eq_slip hd hod
            rw [hq] at q1
            refine held_take 0 (.agg (slV x)) rfl (by kernel_rfl) (by kernel_rfl) (by kernel_rfl) (fun _ _ _ h => h) (yields_load LX.out rfl rfl rfl) G (fun K hK => ?_)
            go_simp
            refine hK _ _ ?_
            clear hK K
            refine held_take 1 (.agg (layV x.k)) rfl (by kernel_rfl) (by kernel_rfl) (by kernel_rfl) (fun _ _ _ h => h) (yields_load LL.out rfl rfl rfl) G (fun K hK => ?_)
            go_simp
            refine hK _ _ ?_
            clear hK K
            refine held_take 2 (.agg (slV x)) rfl (by kernel_rfl) (by kernel_rfl) (by kernel_rfl) (fun _ _ _ h => h) (yields_load LX.out rfl rfl rfl) G (fun K hK => ?_)
            go_simp
            refine hK _ _ ?_
            clear hK K
            refine held_one 3 (by kernel_rfl) (fun K hK => wpOp_in rfl rfl ?_)
            go_simp
            refine (only_any x _ hk hd).mono ?_
            rintro e w6 ⟨rfl, hb⟩
            replace G := G.below hb
            refine hK _ _ G ?_
            clear hK K
            refine held_take 4 (.bool r) rfl (by kernel_rfl) (by kernel_rfl) (by kernel_rfl) (fun _ _ _ h => h) (Or.inl ⟨by rfl, fun x j => by go_simp⟩) G (fun K hK => ?_)
            go_simp
            refine hK _ _ ?_
            clear hK K
            refine held_take 5 (.bool r) rfl (by kernel_rfl) (by kernel_rfl) (by kernel_rfl) (fun _ _ _ h => h) (Or.inl ⟨by rfl, fun x j => by go_simp⟩) G (fun K hK => ?_)
            go_simp
            refine hK _ _ ?_
            clear hK K
            refine wpAnyH_done (by kernel_rfl) ?_ _
            go_wp2
            go_ret
            exact ⟨rfl, G.bel⟩
      · have l1 : 100 < (x.ty.size : Int) := by omega
        have er : r = false := by rw [← HR.out]; exact not_ty ht
        subst er
        go_wp2
        go_ret
        exact ⟨rfl, G.bel⟩
set_option maxHeartbeats 4000000 in
theorem good_plain (x : Sp) (w : World) (hk : 1 ≤ x.k ∧ x.k ≤ 6) (eT : hT x.k = false) (ok : Okay x) :
    Calls Tryz.prog 72 #[.agg (slV x)] w fun e w' => e = .returned (.bool (canB x)) ∧ Below w.heap.size w w' := by
  have hd := ok.dig
  have hod := only_dig hd
  have z1 := ok.repo
  have z2 := ok.tag
  have z3 := ok.ty
  have q0 := eq_lay x.k
  rw [lay_some hk] at q0
  obtain ⟨r, hr⟩ : ∃ r, canB x = r := ⟨_, rfl⟩
  rw [hr]
  have HR := Lib.hid hr
  clear hr
  have X := At.new w 39 (slV x)
  have F : Below w.heap.size w (w.alloc (.cells (slV x) 39)) := (Below.refl _ _).alloc (Nat.le_refl _) _
  go_enter Tryz.func72, Tryz.ntmps72
  go_upto_region 1 with (fail)
  obtain ⟨B, hB⟩ : ∃ B, B = w.heap.size := ⟨_, rfl⟩
  rw [← hB] at X ⊢
  generalize w.alloc (.cells (slV x) 39) = w1 at X F ⊢
  have HB := Lib.hid hB
  clear hB
  have c0 : w1.cell? ⟨B, 0, none⟩ = some (.int .i64 x.k) := X.cell 0
  go_wp2_with fail
  refine (layout_any x.k _).mono ?_
  rintro e w2 ⟨rfl, G1⟩
  replace X := X.old G1
  replace F := F.trans (G1.mono F.size)
  clear G1 c0
  obtain ⟨w3, S3, Y, G2, Z3⟩ := keep (P := Tryz.prog) (ty := 146) w2 #[.bool false, .bool false, .bool false, .bool false] (layV x.k) 146 (by kernel_rfl) rfl (lay_one x.k)
  replace X := X.old G2
  replace F := F.trans (G2.mono F.size)
  have LY := Y.loads (P := Tryz.prog) (ty := 146) (by kernel_rfl) (by kernel_rfl)
  clear G2 Z3
  go_upto_region 2 with (refine wpl_store S3 rfl rfl rfl rfl rfl ?_)
  clear S3
  generalize w2.heap.size = L at Y LY ⊢
  have G : Gd w w3 B L x := ⟨X, Y, F⟩
  clear X F
  go_upto_region 4 with (refine wpl_load LY rfl rfl rfl ?_)
  clear LY q0
  have y0 : w3.cell? ⟨L, 0, none⟩ = some (.bool false) := by rw [Y.cell]; show some (Value.bool (hT x.k)) = _; rw [eT]
  have c35 : w3.cell? ⟨B, 35, none⟩ = some (.string x.ty) := (G.sx.cell 35).trans (sl35 hd.len)
  have c36 : w3.cell? ⟨B, 36, none⟩ = some (.int .i64 x.sz) := (G.sx.cell 36).trans (sl36 hd.len)
  have c37 : w3.cell? ⟨B, 37, none⟩ = some (.int .i64 x.tm) := (G.sx.cell 37).trans (sl37 hd.len)
  clear Y
  have N2 : Hid (hT x.k = true → nameB x.repo 128 = true ∧ nameB x.tag 128 = true) := Lib.hid fun h => by rw [eT] at h; cases h
  by_cases ht : x.ty.size ≤ 100
  · have l1 : (x.ty.size : Int) ≤ 100 := by omega
    go_wp2_with fail
    refine (isNumber_any x.sz 1048576 _).mono ?_
    rintro e w' ⟨rfl, rfl⟩
    rw [show (decide (0 ≤ x.sz) && decide (x.sz ≤ 1048576)) = numB x.sz 1048576 from rfl]
    cases n3 : numB x.sz 1048576 with
    | false =>
      have er : r = false := by rw [← HR.out]; exact not_sz n3
      subst er
      clear n3
      go_wp2
      go_ret
      exact ⟨rfl, G.bel⟩
    | true =>
      have N3 := Lib.hid n3
      clear n3
      go_wp2_with fail
      refine (isNumber_any x.tm 1099511627776 _).mono ?_
      rintro e w' ⟨rfl, rfl⟩
      rw [show (decide (0 ≤ x.tm) && decide (x.tm ≤ 1099511627776)) = numB x.tm 1099511627776 from rfl]
      cases n4 : numB x.tm 1099511627776 with
      | false =>
        have er : r = false := by rw [← HR.out]; exact not_tm n4
        subst er
        clear n4
        go_wp2
        go_ret
        exact ⟨rfl, G.bel⟩
      | true =>
        obtain ⟨q, hq⟩ : ∃ q, @decide (x = onlyS x) (Classical.propDecidable _) = q := ⟨_, rfl⟩
        have er : r = q := by rw [← HR.out, can_of hd hk N2.out ht N3.out n4, hq]
        subst er
        clear n4 N2 N3 HR
        go_upto_region 8 with (fail)
        refine wp_region_held (S := fun y => Gd w y B L x) (by kernel_rfl) ?_
        change wpAnyH _ _ _ _ _ _ _ _ w3.drew
        replace G := G.drew
        clear c35 c36 c37
        generalize w3.drew = w4 at G ⊢
        have LX : Hid (∀ y, Gd w y B L x → Loads Tryz.prog y 39 ⟨B, 0, none⟩ (slV x)) := Lib.hid fun y j => sl_loads j.sx hd.len
        have LL : Hid (∀ y, Gd w y B L x → Loads Tryz.prog y 146 ⟨L, 0, none⟩ (layV x.k)) := Lib.hid fun y j => j.ly.loads (by kernel_rfl) (by kernel_rfl)
        have q1 := eq_slip hd hod
        rw [hq] at q1
        refine held_take 0 (.agg (slV x)) rfl (by kernel_rfl) (by kernel_rfl) (by kernel_rfl) (fun _ _ _ h => h) (yields_load LX.out rfl rfl rfl) G (fun K hK => ?_)
        go_simp
        refine hK _ _ ?_
        clear hK K
        refine held_take 1 (.agg (layV x.k)) rfl (by kernel_rfl) (by kernel_rfl) (by kernel_rfl) (fun _ _ _ h => h) (yields_load LL.out rfl rfl rfl) G (fun K hK => ?_)
        go_simp
        refine hK _ _ ?_
        clear hK K
        refine held_take 2 (.agg (slV x)) rfl (by kernel_rfl) (by kernel_rfl) (by kernel_rfl) (fun _ _ _ h => h) (yields_load LX.out rfl rfl rfl) G (fun K hK => ?_)
        go_simp
        refine hK _ _ ?_
        clear hK K
        refine held_one 3 (by kernel_rfl) (fun K hK => wpOp_in rfl rfl ?_)
        go_simp
        refine (only_any x _ hk hd).mono ?_
        rintro e w6 ⟨rfl, hb⟩
        replace G := G.below hb
        refine hK _ _ G ?_
        clear hK K
        refine held_take 4 (.bool r) rfl (by kernel_rfl) (by kernel_rfl) (by kernel_rfl) (fun _ _ _ h => h) (Or.inl ⟨by rfl, fun x j => by go_simp⟩) G (fun K hK => ?_)
        go_simp
        refine hK _ _ ?_
        clear hK K
        refine held_take 5 (.bool r) rfl (by kernel_rfl) (by kernel_rfl) (by kernel_rfl) (fun _ _ _ h => h) (Or.inl ⟨by rfl, fun x j => by go_simp⟩) G (fun K hK => ?_)
        go_simp
        refine hK _ _ ?_
        clear hK K
        refine wpAnyH_done (by kernel_rfl) ?_ _
        go_wp2
        go_ret
        exact ⟨rfl, G.bel⟩
  · have l1 : 100 < (x.ty.size : Int) := by omega
    have er : r = false := by rw [← HR.out]; exact not_ty ht
    subst er
    go_wp2
    go_ret
    exact ⟨rfl, G.bel⟩
theorem good_any (x : Sp) (w : World) (ok : Okay x) :
    Calls Tryz.prog 72 #[.agg (slV x)] w fun e w' => e = .returned (.bool (canB x)) ∧ Below w.heap.size w w' := by
  by_cases hk : 1 ≤ x.k ∧ x.k ≤ 6
  · cases e : hT x.k
    · exact good_plain x w hk e ok
    · exact good_names x w hk e ok
  · exact good_none x w hk
end Go.Proofs.YtdmgobffhpgjlaaGreat.Sl
