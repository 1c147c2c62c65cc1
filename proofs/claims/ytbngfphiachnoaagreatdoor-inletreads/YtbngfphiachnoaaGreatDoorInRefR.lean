/-
  Contract of wrong and Read of the document's answers: the request that bytes begin with.
-/
import Derived.Test.YtbngfphiachnoaaGreatDoorInRefL
import Derived.Test.YtbngfphiachnoaaGreatDoorSet7
import Derived.Test.YtbngfphiachnoaaGreatDoorInNext2
import Derived.Test.YtbngfphiachnoaaGreatDoorFiRefS
import Derived.Test.YtbngfphiachnoaaGreatDoorFiRefG
import Derived.Test.YtbngfphiachnoaaGreatDoorFiRefF2
import Derived.Test.YtbngfphiachnoaaGreatDoorFiRefE
import Derived.Test.YtbngfphiachnoaaGreatDoorChRread
namespace Go.Proofs.YtbngfphiachnoaaGreatDoor.In
open Go.RowKit Go.PlainAid
open Hx Fi Ch
set_option linter.unusedVariables false
set_option maxRecDepth 20000
set_option linter.unusedSimpArgs false

theorem wrong_any (e k : Int) (he : -9223372036854775808 ≤ e ∧ e ≤ 9223372036854775807) (w : World) :
    Calls Tryz.prog 27 #[.int .i64 e, .int .i64 k] w fun x w' => x = .returned (.int .i64 (if e = 17 ∨ e = 0 then 0 else if e = 4 then k else 400)) ∧ w = w' := by
  by_cases h17 : e = 17
  · subst h17
    rw [if_pos (.inl rfl)]
    go_enter Tryz.func27, Tryz.ntmps27
    go_wp2
    go_ret
    exact ⟨rfl, rfl⟩
  · have g17 : (e == 17) = false := by rw [beq_eq_false_iff_ne]; exact h17
    by_cases h0 : e = 0
    · subst h0
      rw [if_pos (.inr rfl)]
      go_enter Tryz.func27, Tryz.ntmps27
      go_wp2
      go_ret
      exact ⟨rfl, rfl⟩
    · have g0 : (e == 0) = false := by rw [beq_eq_false_iff_ne]; exact h0
      rw [if_neg (fun x => x.elim h17 h0)]
      by_cases h4 : e = 4
      · subst h4
        rw [if_pos rfl]
        go_enter Tryz.func27, Tryz.ntmps27
        go_wp2
        go_ret
        exact ⟨rfl, rfl⟩
      · have g4 : (e == 4) = false := by rw [beq_eq_false_iff_ne]; exact h4
        rw [if_neg h4]
        go_enter Tryz.func27, Tryz.ntmps27
        go_wp2
        go_ret
        exact ⟨rfl, rfl⟩
theorem results_two {P : Program} {fn : Func} {p q r : Tmp} {ty : TypeId} (h : fn.results = #[.cell p ty, .tmp q, .tmp r]) (tmps : Array Value) {w : World} {g : Nat} {cs : Array Value} {v u : Value}
    (hp : tmps.getD p undef = .pointer (some ⟨g, 0, none⟩)) (hq : tmps.getD q undef = v) (hr : tmps.getD r undef = u) (hl : Loads P w ty ⟨g, 0, none⟩ cs) :
    (results fn tmps).run P w = .ok (.tuple #[.agg cs, v, u]) w := by
  have hp' : tmps[p]?.getD undef = .pointer (some ⟨g, 0, none⟩) := by simpa using hp
  have hq' : tmps[q]?.getD undef = v := by simpa using hq
  have hr' : tmps[r]?.getD undef = u := by simpa using hr
  have hl' : (loadVar ty ⟨g, 0, none⟩).run P w = .ok (.agg cs) w := hl
  simp [results, h, hp', hq', hr', asAddr, hl']
/-- two blocks hold no request: the result's, and the one called none -/
structure Zz (w u : World) : Prop where
  a : At u w.heap.size 30 zR
  b : At u (w.heap.size + 1) 30 zR
  bel : Below w.heap.size w u
theorem zR_ones : ∀ v ∈ zR.toList, v.oneCell' = true := by
  intro v hv
  simp [zR] at hv
  rcases hv with rfl | rfl | rfl <;> rfl
section
variable {w u u' : World}
theorem Zz.old (h : Zz w u) (hb : Below u.heap.size u u') : Zz w u' := ⟨h.a.old hb, h.b.old hb, h.bel.trans (hb.mono h.bel.size)⟩
theorem Zz.drew (h : Zz w u) : Zz w u.drew := h.old ((Below.refl _ _).drew)
theorem Zz.stores (h : Zz w u) : Stores Tryz.prog u 30 w.heap.size 0 zR (u.setRow w.heap.size zR) := h.a.stores (by kernel_rfl) rfl zR_ones
theorem Zz.store (h : Zz w u) : Zz w (u.setRow w.heap.size zR) := ⟨h.a.row _, h.b.rowOther (by omega), below_row h.bel (Nat.le_refl _)⟩
theorem Zz.nonel (h : Zz w u) : Loads Tryz.prog u 30 ⟨w.heap.size + 1, 0, none⟩ zR := h.b.loads (by kernel_rfl) (by kernel_rfl)
theorem Zz.loads (h : Zz w u) : Loads Tryz.prog u 30 ⟨w.heap.size, 0, none⟩ zR := h.a.loads (by kernel_rfl) (by kernel_rfl)
theorem Zz.new (w : World) : ∃ w2, Stores Tryz.prog ((w.alloc (.cells zR 30)).alloc (.cells zR 30)) 30 (w.heap.size + 1) 0 zR w2 ∧ Zz w w2 := by
  have A := At.new w 30 zR
  have B := At.new (w.alloc (.cells zR 30)) 30 zR
  have e : (w.alloc (.cells zR 30)).heap.size = w.heap.size + 1 := by simp
  rw [e] at B
  have A2 := A.alloc (.cells zR 30)
  have F : Below w.heap.size w ((w.alloc (.cells zR 30)).alloc (.cells zR 30)) := ((Below.refl _ _).alloc (Nat.le_refl _) _).alloc (by omega) _
  exact ⟨_, B.stores (by kernel_rfl) rfl zR_ones, A2.rowOther (by omega), B.row zR, below_row F (by omega)⟩
end
theorem parse_named {x : List UInt8} {f : Fi.Fd} (h : parseF x = some f) : 0 < f.n.size := by
  unfold parseF at h
  cases hc : cutB 58 x with
  | none => rw [hc] at h; cases h
  | some p =>
    obtain ⟨a, b⟩ := p
    rw [hc] at h
    simp only at h
    split at h
    · rename_i hb
      injection h with h
      subst h
      show 0 < (tx a).size
      rw [tx_size]
      cases a with
      | nil => exact absurd hb.1 (by decide)
      | cons c d => simp
    · cases h
theorem fld_named (full : Bool) : ∀ (k : Nat) (l : List UInt8), l.length ≤ k → ∀ (at_ : Nat) (acc : List Fi.Fd), (∀ x ∈ acc, 0 < x.n.size) → ∀ x ∈ (fldF full l at_ acc).list, 0 < x.n.size := by
  intro k
  induction k with
  | zero =>
    intro l hl at_ acc ha
    have : l = [] := List.eq_nil_of_length_eq_zero (by omega)
    subst this
    rw [fldF_err at_ acc lineF_nil]
    simp
  | succ k ih =>
    intro l hl at_ acc ha
    cases hq : lineF full l with
    | error e => rw [fldF_err at_ acc hq]; simp
    | ok p =>
      obtain ⟨x, r⟩ := p
      have hlen := lineF_len hq
      by_cases hx : x = []
      · subst hx
        rw [fldF_end at_ acc hq]; exact ha
      · cases hp : parseF x with
        | none => rw [fldF_form at_ acc hq hx hp]; simp
        | some f =>
          by_cases hl32 : acc.length = 32
          · rw [fldF_long at_ acc hq hx hp hl32]; simp
          · rw [fldF_step at_ acc hq hx hp hl32]
            refine ih r (by omega) (at_ + x.length + 2) (acc ++ [f]) fun y hy => ?_
            rcases List.mem_append.1 hy with h | h
            · exact ha y h
            · rw [List.mem_singleton] at h
              subst h
              exact parse_named hp
theorem spl_named (l : List UInt8) : ∀ x ∈ (spl l).list, 0 < x.n.size := by
  unfold spl
  cases hq : lineF (decide (4096 ≤ l.length)) (l.take 4096) with
  | error e => simp
  | ok p =>
    obtain ⟨x, r⟩ := p
    simp only
    split
    · simp
    · split
      · simp
      · exact fld_named _ r.length r (Nat.le_refl _) _ [] (by simp)
/-- fields with names don't lie where no request lies -/
theorem fds_far {w : World} {B : Nat} {v : Value} {xs : List Fi.Fd} (h : FdsAt w v xs) (a : At w B 30 zR) (hx : ∀ x ∈ xs, 0 < x.n.size) : ¬ FB v xs B := by
  intro hb
  obtain ⟨base, cap, rfl, hl, hc⟩ := h.is
  obtain ⟨hne, ho⟩ := hb
  cases xs with
  | nil => exact hne rfl
  | cons x xs =>
    obtain ⟨ad, rfl, hlt, hcell⟩ := hc 0 x rfl
    simp [Value.ownBlock] at ho
    have h0 := hcell 0 (.string x.n) rfl
    have hpos := hx x (by simp)
    have hB : ((ad.add (0 * 2)).add 0).block = B := by rw [add_block, add_block]; exact ho
    generalize (ad.add (0 * 2)).add 0 = d at h0 hB
    obtain ⟨db, df, ds⟩ := d
    simp only at hB
    subst hB
    have key : ∀ j : Nat, zR[j]? = some (.string x.n) → False := by
      intro j hj
      match j with
      | 0 => simp [zR] at hj; rw [← hj] at hpos; exact absurd hpos (by decide)
      | 1 => simp [zR] at hj; rw [← hj] at hpos; exact absurd hpos (by decide)
      | 2 => simp [zR] at hj
      | 3 => simp [zR] at hj
      | j + 4 => simp [zR] at hj
    have hh := a.heap
    unfold World.cell? at h0
    simp only [hh] at h0
    simp at h0
    exact key df h0.2
/-- what Read answers -/
def RrPost (w : World) (l : List UInt8) (e : Ending) (w' : World) : Prop :=
  (∃ st, (st = 0 ∧ rdF l = .more ∨ rdF l = .bad st) ∧ e = .returned (.tuple #[.agg zR, .int .i64 0, .int .i64 st]) ∧ Below w.heap.size w w') ∨
  (∃ q n fv, rdF l = .ok q n ∧ e = .returned (.tuple #[.agg (rqV q fv), .int .i64 (n : Int), .int .i64 200]) ∧ FdsAt w' fv q.fs ∧ (∃ o m k, fv = .slice o m k) ∧ Below w.heap.size w w')
theorem rr_zero {w w' : World} {l : List UInt8} {st : Int} (h : st = 0 ∧ rdF l = .more ∨ rdF l = .bad st) (z : Zz w w') : RrPost w l (.returned (.tuple #[.agg zR, .int .i64 0, .int .i64 st])) w' := .inl ⟨st, h, rfl, z.bel⟩
def nhost : ByteArray := ⟨#[104, 111, 115, 116]⟩
theorem host_low : low (ls nhost) = low (ls nHost) := by decide +kernel
set_option maxRecDepth 200000 in
set_option maxHeartbeats 40000000 in
theorem rread12_any (s : ByteArray) (w : World) (hs : s.size ≤ 262144) :
    Calls Tryz.prog 12 #[.string s] w (RrPost w (ls s)) := by
  obtain ⟨w2, S0, Z0⟩ := Zz.new w
  unfold zR at S0
  have SPL := fun w => refSplit_any s w (by omega)
  obtain ⟨l, hl⟩ : ∃ l, ls s = l := ⟨_, rfl⟩
  rw [hl] at SPL ⊢
  have HL := Lib.hid hl
  have hll : l.length = s.size := by rw [← hl, ls_len]
  clear hl
  have er := (spl_small l).2
  have sh := spl_short2 l
  have sst := spl_start l
  have sn := spl_n l
  by_cases h0 : (spl l).err = 0
  rotate_left
  · obtain ⟨E, hE⟩ : ∃ E, (spl l).err = E := ⟨_, rfl⟩
    have wr := fun w => wrong_any E 431 (by omega) w
    obtain ⟨st, hst⟩ : ∃ st, (if E = 17 ∨ E = 0 then (0 : Int) else if E = 4 then 431 else 400) = st := ⟨_, rfl⟩
    rw [hst] at wr
    have RS := Lib.hid (show st = 0 ∧ rdF l = .more ∨ rdF l = .bad st by
      rw [← hst]
      by_cases h17 : (spl l).err = 17
      · rw [if_pos (.inl (by omega))]; exact .inl ⟨rfl, rd_short h17⟩
      · rw [if_neg (by omega)]
        by_cases h4 : (spl l).err = 4
        · rw [if_pos (by omega)]; exact .inr (rd_long h4)
        · rw [if_neg (by omega)]; exact .inr (rd_form h17 h4 h0))
    have HE := Lib.hid hE
    have g : (E != 0) = true := by rw [bne_iff_ne]; omega
    clear hE hst h0 er sh sst sn hll
    go_enter Tryz.func12, Tryz.ntmps12
    go_upto_region 2 with (refine wpl_store S0 rfl rfl rfl rfl rfl ?_)
    clear S0
    go_wp2_with fail
    refine (SPL _).mono ?_
    rintro e w1 ⟨v, rfl, FV, F1⟩
    clear SPL
    replace Z0 := Z0.old F1
    have HFV := Lib.hid FV
    obtain ⟨bv, kv, rfl, _, _⟩ := FV.is
    clear FV F1
    rw [HE.out]
    generalize tx (spl l).start = X at *
    generalize (spl l).n = n at *
    clear HFV
    go_upto_region 4 with (fail)
    refine wp_region_held (S := fun u => Zz w u) (by kernel_rfl) ?_
    change wpAnyH _ _ _ _ _ _ _ _ w1.drew
    have j0 := Z0.drew
    have LZ := Lib.hid (fun u (hz : Zz w u) => hz.nonel)
    unfold zR at LZ
    generalize w1.drew = W at j0 ⊢
    clear Z0
    refine held_take 0 (.agg #[.string ⟨#[]⟩, .string ⟨#[]⟩, .slice none 0 0, .bool false]) rfl (by kernel_rfl) (by kernel_rfl) (by kernel_rfl) (fun _ _ _ h => h) (yields_load LZ.out rfl rfl rfl) j0 (fun K hK => ?_)
    go_simp
    refine hK _ _ ?_
    clear hK K
    refine held_take 1 (.int .i64 E) rfl (by kernel_rfl) (by kernel_rfl) (by kernel_rfl) (fun _ _ _ h => h) (Or.inl ⟨by rfl, fun x j => by go_simp⟩) j0 (fun K hK => ?_)
    go_simp
    refine hK _ _ ?_
    clear hK K
    refine held_one 2 (by kernel_rfl) (fun K hK => wpOp_in rfl rfl ?_)
    go_simp
    refine (wr _).mono ?_
    rintro e u1 ⟨rfl, rfl⟩
    refine hK _ _ j0 ?_
    clear wr
    clear hK K
    refine held_one 3 (by kernel_rfl) (fun K hK => wpOp_in rfl rfl ?_)
    have S2 := j0.stores
    have j2 := j0.store
    unfold zR at S2 j2
    refine wpo_store S2 rfl rfl rfl rfl ?_
    refine hK _ _ j2 ?_
    clear S2 j0
    clear hK K
    refine held_take 4 (.int .i64 0) rfl (by kernel_rfl) (by kernel_rfl) (by kernel_rfl) (fun _ _ _ h => h) (Or.inl ⟨by rfl, fun x j => by go_simp⟩) j2 (fun K hK => ?_)
    go_simp
    refine hK _ _ ?_
    clear hK K
    refine held_take 5 (.int .i64 st) rfl (by kernel_rfl) (by kernel_rfl) (by kernel_rfl) (fun _ _ _ h => h) (Or.inl ⟨by rfl, fun x j => by go_simp⟩) j2 (fun K hK => ?_)
    go_simp
    refine hK _ _ ?_
    clear hK K
    refine wpAnyH_done (by kernel_rfl) ?_ _
    go_wp2
    refine bodyPost_ret (results_two Tryz.results12 _ rfl rfl rfl j2.loads) rfl ?_
    exact rr_zero RS.out j2
  · have H0 := Lib.hid h0
    have NM := Lib.hid (spl_named l)
    have rl := fun w => rline_any (tx (spl l).start) w (by rw [tx_size]; omega)
    rw [ls_tx] at rl
    obtain ⟨X, hX⟩ : ∃ X, tx (spl l).start = X := ⟨_, rfl⟩
    rw [hX] at rl
    have HX := Lib.hid hX
    clear hX
    obtain ⟨N, hN⟩ : ∃ N, (spl l).n = N := ⟨_, rfl⟩
    have sn : N ≤ l.length := by rw [← hN]; exact sn
    clear er
    have er : True := trivial
    cases hln : lnQ (spl l).start with
    | error st =>
      rw [hln] at rl
      simp only [ln_err] at rl
      have hne := lnQ_err hln
      have g : (st != 200) = true := by rw [bne_iff_ne]; omega
      have RS := Lib.hid (show st = 0 ∧ rdF l = .more ∨ rdF l = .bad st from .inr (rd_bad h0 (by unfold headQ; rw [hln])))
      clear hln hne h0 sh sst sn hll er NM
      go_enter Tryz.func12, Tryz.ntmps12
      go_upto_region 2 with (refine wpl_store S0 rfl rfl rfl rfl rfl ?_)
      clear S0
      go_wp2_with fail
      refine (SPL _).mono ?_
      rintro e w1 ⟨v, rfl, FV, F1⟩
      clear SPL
      replace Z0 := Z0.old F1
      have HFV := Lib.hid FV
      obtain ⟨bv, kv, rfl, _, _⟩ := FV.is
      clear FV F1
      rw [H0.out, HX.out]
      rw [hN]
      go_wp2_with fail
      refine (rl _).mono ?_
      rintro e w2 ⟨rfl, F2⟩
      clear rl
      replace Z0 := Z0.old F2
      have HFV2 := Lib.hid (HFV.out.below F2)
      clear F2 HFV
      have LZ := Z0.nonel
      have S2 := Z0.stores
      have Z2 := Z0.store
      unfold zR at LZ S2 Z2
      generalize World.setRow w2 w.heap.size #[.string ⟨#[]⟩, .string ⟨#[]⟩, .slice none 0 0, .bool false] = wz at S2 Z2
      clear Z0
      go_wp2_with (first | refine wpl_load LZ rfl rfl rfl ?_ | refine wpl_store S2 rfl rfl rfl rfl rfl ?_)
      refine bodyPost_ret (results_two Tryz.results12 _ rfl rfl rfl Z2.loads) rfl ?_
      exact rr_zero RS.out Z2
    | ok pr =>
      obtain ⟨m, t, k⟩ := pr
      rw [hln] at rl
      simp only [ln_ok] at rl
      have hk := (lnQ_k hln).1
      have rh := fun (u : World) (v : Value) (hv : FdsAt u v (spl l).list) => refGet_any nhost hv (by have := sh.len; omega) (by decide) (fun x hx => by have := sh.n x hx; omega) (by decide)
      rw [(get_low host_low (spl l).list).1, (get_low host_low (spl l).list).2] at rh
      unfold nhost at rh
      obtain ⟨NN, hNN⟩ : ∃ NN, getN (ls nHost) (spl l).list = NN := ⟨_, rfl⟩
      rw [hNN] at rh
      generalize getS (ls nHost) (spl l).list = GS at rh
      have clr : True := trivial
      clear h0
      by_cases hb1 : 1 < NN
      · have g1 : (1 : Int) < (NN : Int) := by omega
        have RS := Lib.hid (show (400 : Int) = 0 ∧ rdF l = .more ∨ rdF l = .bad 400 from .inr (rd_bad H0.out (by unfold headQ; rw [hln]; simp only; rw [if_pos (.inl (by omega))])))
        generalize tx m = M at *
        generalize tx t = TT at *
        clear hln hk sh sst sn hll hNN hb1 NM
        go_enter Tryz.func12, Tryz.ntmps12
        go_upto_region 2 with (refine wpl_store S0 rfl rfl rfl rfl rfl ?_)
        clear S0
        go_wp2_with fail
        refine (SPL _).mono ?_
        rintro e w1 ⟨v, rfl, FV, F1⟩
        clear SPL
        replace Z0 := Z0.old F1
        have HFV := Lib.hid FV
        obtain ⟨bv, kv, rfl, _, _⟩ := FV.is
        clear FV F1
        rw [H0.out, HX.out]
        rw [hN]
        go_wp2_with fail
        refine (rl _).mono ?_
        rintro e w2 ⟨rfl, F2⟩
        clear rl
        replace Z0 := Z0.old F2
        have HFV2 := Lib.hid (HFV.out.below F2)
        clear F2 HFV
        have RH := rh w2 _ HFV2.out
        clear rh
        go_wp2_with fail
        refine RH.mono ?_
        rintro e w3 ⟨rfl, F3⟩
        clear RH
        replace Z0 := Z0.old F3
        have HFV3 := Lib.hid (HFV2.out.below F3)
        clear F3 HFV2
        have LZ := Z0.nonel
        have S2 := Z0.stores
        have Z2 := Z0.store
        unfold zR at LZ S2 Z2
        generalize World.setRow w3 w.heap.size #[.string ⟨#[]⟩, .string ⟨#[]⟩, .slice none 0 0, .bool false] = wz at S2 Z2
        clear Z0
        go_wp2_with (first | refine wpl_load LZ rfl rfl rfl ?_ | refine wpl_store S2 rfl rfl rfl rfl rfl ?_)
        refine bodyPost_ret (results_two Tryz.results12 _ rfl rfl rfl Z2.loads) rfl ?_
        exact rr_zero RS.out Z2
      · have g1 : ¬ (1 : Int) < (NN : Int) := by omega
        by_cases hn0 : NN = 0
        · have g0 : ((NN : Int) == 0) = true := by rw [hn0]; rfl
          by_cases hk1 : k = 1
          · have gk : ((k : Int) == 1) = true := by rw [hk1]; rfl
            have RS := Lib.hid (show (400 : Int) = 0 ∧ rdF l = .more ∨ rdF l = .bad 400 from .inr (rd_bad H0.out (by unfold headQ; rw [hln]; simp only; rw [if_pos (.inr ⟨by omega, hk1⟩)])))
            generalize tx m = M at *
            generalize tx t = TT at *
            clear hln hk sh sst sn hll hNN hb1 NM hn0 hk1
            go_enter Tryz.func12, Tryz.ntmps12
            go_upto_region 2 with (refine wpl_store S0 rfl rfl rfl rfl rfl ?_)
            clear S0
            go_wp2_with fail
            refine (SPL _).mono ?_
            rintro e w1 ⟨v, rfl, FV, F1⟩
            clear SPL
            replace Z0 := Z0.old F1
            have HFV := Lib.hid FV
            obtain ⟨bv, kv, rfl, _, _⟩ := FV.is
            clear FV F1
            rw [H0.out, HX.out]
            rw [hN]
            go_wp2_with fail
            refine (rl _).mono ?_
            rintro e w2 ⟨rfl, F2⟩
            clear rl
            replace Z0 := Z0.old F2
            have HFV2 := Lib.hid (HFV.out.below F2)
            clear F2 HFV
            have RH := rh w2 _ HFV2.out
            clear rh
            go_wp2_with fail
            refine RH.mono ?_
            rintro e w3 ⟨rfl, F3⟩
            clear RH
            replace Z0 := Z0.old F3
            have HFV3 := Lib.hid (HFV2.out.below F3)
            clear F3 HFV2
            have LZ := Z0.nonel
            have S2 := Z0.stores
            have Z2 := Z0.store
            unfold zR at LZ S2 Z2
            generalize World.setRow w3 w.heap.size #[.string ⟨#[]⟩, .string ⟨#[]⟩, .slice none 0 0, .bool false] = wz at S2 Z2
            clear Z0
            go_wp2_with (first | refine wpl_load LZ rfl rfl rfl ?_ | refine wpl_store S2 rfl rfl rfl rfl rfl ?_)
            refine bodyPost_ret (results_two Tryz.results12 _ rfl rfl rfl Z2.loads) rfl ?_
            exact rr_zero RS.out Z2
          · have gk : ((k : Int) == 1) = false := by rw [beq_eq_false_iff_ne]; omega
            have hgood : ¬ (1 < getN (ls nHost) (spl l).list ∨ (getN (ls nHost) (spl l).list = 0 ∧ k = 1)) := by omega
            clear hNN hb1 hn0 hk1
            obtain ⟨q, hqe⟩ : ∃ q : Rq, q = ⟨m, t, (spl l).list, closesF (spl l).list k⟩ := ⟨_, rfl⟩
            have rf := fun (u : World) (v : Value) (hv : FdsAt u v (spl l).list) => refFrame_any 4096 hv sh (by omega) (by omega)
            have hfe := fr_e (spl l).list
            have hfn := fr_n (spl l).list
            by_cases he0 : (frF (spl l).list 4096).e = 0
            · have HQ := Lib.hid (show headQ (spl l) = .ok (q, frF (spl l).list 4096) by
                unfold headQ
                rw [hln]
                simp only
                rw [if_neg hgood, if_neg (by omega), if_neg (by omega), hqe])
              have QFS := Lib.hid (show q.fs = (spl l).list by rw [hqe])
              have cl := fun (u : World) (v : Value) (hv : FdsAt u v (spl l).list) => refCloses_any (k : Int) (by omega) (by omega) hv sh
              have QEQ : Hid (∀ fv, rqV q fv = #[.string (tx m), .string (tx t), fv, .bool (closesF (spl l).list k)]) := Lib.hid fun fv => by rw [hqe]; rfl
              generalize tx m = M at *
              generalize tx t = TT at *
              generalize closesF (spl l).list k = CLV at *
              rw [he0] at rf
              cases hfc : (frF (spl l).list 4096).c with
              | false =>
                have HC := Lib.hid hfc
                rw [hfc] at rf
                obtain ⟨D, hD⟩ : ∃ D, (frF (spl l).list 4096).n.toNat = D := ⟨_, rfl⟩
                have hmax : max (frF (spl l).list 4096).n 0 = (D : Int) := by omega
                have hDz : D ≤ 4096 := by omega
                obtain ⟨FN, hFN⟩ : ∃ FN, (frF (spl l).list 4096).n = FN := ⟨_, rfl⟩
                rw [hFN] at rf hmax
                clear hqe hfe hfn he0 hln hgood sst hFN hfc er
                have hN0 : N ≤ s.size := by omega
                by_cases hlt : s.size < N + D
                · have g20 : (s.size : Int) - (N : Int) < (D : Int) := by omega
                  have RS := Lib.hid (show (0 : Int) = 0 ∧ rdF l = .more ∨ rdF l = .bad 0 from .inl ⟨rfl, by rw [rd_sized H0.out HQ.out (by rw [HC.out]; simp), if_pos (by rw [hD, hN, hll]; exact hlt)]⟩)
                  clear hlt cl
                  go_enter Tryz.func12, Tryz.ntmps12
                  go_upto_region 2 with (refine wpl_store S0 rfl rfl rfl rfl rfl ?_)
                  clear S0
                  go_wp2_with fail
                  refine (SPL _).mono ?_
                  rintro e w1 ⟨v, rfl, FV, F1⟩
                  clear SPL
                  replace Z0 := Z0.old F1
                  have HFV := Lib.hid FV
                  obtain ⟨bv, kv, rfl, _, _⟩ := FV.is
                  clear FV F1
                  rw [H0.out, HX.out]
                  rw [hN]
                  go_wp2_with fail
                  refine (rl _).mono ?_
                  rintro e w2 ⟨rfl, F2⟩
                  clear rl
                  replace Z0 := Z0.old F2
                  have HFV2 := Lib.hid (HFV.out.below F2)
                  clear F2 HFV
                  have RH := rh w2 _ HFV2.out
                  clear rh
                  go_wp2_with fail
                  refine RH.mono ?_
                  rintro e w3 ⟨rfl, F3⟩
                  clear RH
                  replace Z0 := Z0.old F3
                  have HFV3 := Lib.hid (HFV2.out.below F3)
                  clear F3 HFV2
                  have RF := rf w3 _ HFV3.out
                  clear rf
                  go_wp2_with fail
                  refine RF.mono ?_
                  rintro e w4 ⟨rfl, F4⟩
                  clear RF
                  replace Z0 := Z0.old F4
                  have HFV4 := Lib.hid (HFV3.out.below F4)
                  clear F4 HFV3
                  have LZ := Z0.nonel
                  have S2 := Z0.stores
                  have Z2 := Z0.store
                  unfold zR at LZ S2 Z2
                  generalize World.setRow w4 w.heap.size #[.string ⟨#[]⟩, .string ⟨#[]⟩, .slice none 0 0, .bool false] = wz at S2 Z2
                  clear Z0
                  go_wp2_with (first | refine wpl_load LZ rfl rfl rfl ?_ | refine wpl_store S2 rfl rfl rfl rfl rfl ?_)
                  refine bodyPost_ret (results_two Tryz.results12 _ rfl rfl rfl Z2.loads) rfl ?_
                  exact rr_zero (st := 0) (RS.out.imp (fun h => ⟨rfl, h.2⟩) id) Z2
                · have g20 : ¬ (s.size : Int) - (N : Int) < (D : Int) := by omega
                  have HOK := Lib.hid (show rdF l = .ok q (N + D) by rw [rd_sized H0.out HQ.out (by rw [HC.out]; simp), if_neg (by rw [hD, hN, hll]; exact hlt), hN, hD])
                  have NEQ := Lib.hid (show ((N + D : Nat) : Int) = (N : Int) + (D : Int) by omega)
                  clear hlt
                  go_enter Tryz.func12, Tryz.ntmps12
                  go_upto_region 2 with (refine wpl_store S0 rfl rfl rfl rfl rfl ?_)
                  clear S0
                  go_wp2_with fail
                  refine (SPL _).mono ?_
                  rintro e w1 ⟨v, rfl, FV, F1⟩
                  clear SPL
                  replace Z0 := Z0.old F1
                  have HFV := Lib.hid FV
                  obtain ⟨bv, kv, rfl, _, _⟩ := FV.is
                  clear FV F1
                  rw [H0.out, HX.out]
                  rw [hN]
                  go_wp2_with fail
                  refine (rl _).mono ?_
                  rintro e w2 ⟨rfl, F2⟩
                  clear rl
                  replace Z0 := Z0.old F2
                  have HFV2 := Lib.hid (HFV.out.below F2)
                  clear F2 HFV
                  have RH := rh w2 _ HFV2.out
                  clear rh
                  go_wp2_with fail
                  refine RH.mono ?_
                  rintro e w3 ⟨rfl, F3⟩
                  clear RH
                  replace Z0 := Z0.old F3
                  have HFV3 := Lib.hid (HFV2.out.below F3)
                  clear F3 HFV2
                  have RF := rf w3 _ HFV3.out
                  clear rf
                  go_wp2_with fail
                  refine RF.mono ?_
                  rintro e w4 ⟨rfl, F4⟩
                  clear RF
                  replace Z0 := Z0.old F4
                  have HFV4 := Lib.hid (HFV3.out.below F4)
                  clear F4 HFV3
                  have CL := cl w4 _ HFV4.out
                  clear cl
                  go_wp2_with fail
                  refine CL.mono ?_
                  rintro e w8 ⟨rfl, F8⟩
                  clear CL
                  replace Z0 := Z0.old F8
                  have HFV8 := Lib.hid (HFV4.out.below F8)
                  clear F8 HFV4
                  have S9 : Stores Tryz.prog w8 30 w.heap.size 0 (rqV q (.slice bv (spl l).list.length kv)) (w8.setRow w.heap.size (rqV q (.slice bv (spl l).list.length kv))) := Z0.a.stores (by rw [rqV_size]; kernel_rfl) rfl (rq_one ⟨_, _, _, rfl⟩)
                  have L9 : Loads Tryz.prog (w8.setRow w.heap.size (rqV q (.slice bv (spl l).list.length kv))) 30 ⟨w.heap.size, 0, none⟩ (rqV q (.slice bv (spl l).list.length kv)) := (Z0.a.row _).loads (by kernel_rfl) (by rw [rqV_size]; kernel_rfl)
                  have B9 : Below w.heap.size w (w8.setRow w.heap.size (rqV q (.slice bv (spl l).list.length kv))) := below_row Z0.bel (Nat.le_refl _)
                  have V9 : FdsAt (w8.setRow w.heap.size (rqV q (.slice bv (spl l).list.length kv))) (.slice bv (spl l).list.length kv) q.fs := by
                    rw [QFS.out]
                    exact fds_kept HFV8.out (by simp) fun b hb => heap_setRow_other fun e => fds_far HFV8.out Z0.a NM.out (by rw [← e]; exact hb)
                  have HV9 := Lib.hid V9
                  generalize w8.setRow w.heap.size (rqV q (.slice bv (spl l).list.length kv)) = w9 at S9 L9 B9 HV9
                  rw [QEQ.out] at S9 L9
                  skip
                  clear Z0 V9 HFV8
                  go_wp2_with (refine wpl_store S9 rfl rfl rfl rfl rfl ?_)
                  refine bodyPost_ret (results_two Tryz.results12 _ rfl rfl rfl L9) rfl ?_
                  exact .inr ⟨q, N + D, .slice bv (spl l).list.length kv, HOK.out, by rw [NEQ.out, QEQ.out]; rfl, HV9.out, ⟨_, _, _, rfl⟩, B9⟩
              | true =>
                have HC := Lib.hid hfc
                rw [hfc] at rf
                generalize (frF (spl l).list 4096).n = FN at rf
                clear hqe hfe hfn he0 hln hgood sst hfc er
                have hN0 : N ≤ s.size := by omega
                obtain ⟨SB, hSB⟩ : ∃ SB, s.extract N s.size = SB := ⟨_, rfl⟩
                have hSBl : ls SB = l.drop N := by rw [← hSB, ls_extract, ← HL.out, List.take_of_length_le (by rw [List.length_drop, ls_len]; exact Nat.le_refl _)]
                have hSBz : SB.size + N = s.size := by
                  have := congrArg List.length hSBl
                  rw [ls_len, List.length_drop] at this
                  omega
                have rb := fun w => rread_any SB 4096 (by omega) (by omega) (by omega) w
                rw [hSBl] at rb
                obtain ⟨R, hR⟩ : ∃ R, run 4096 init (l.drop N) = R := ⟨_, rfl⟩
                rw [show ((4096 : Int)).toNat = 4096 from rfl, hR] at rb
                have hbc : rdF l = bodyC q R l.length := by rw [rd_chunks H0.out HQ.out HC.out, hN, hR]
                have hrl : R.md.rest.length ≤ SB.size := by
                  have h1 := rest_le 4096 (l.drop N) init
                  rw [hR, ← hSBl, ls_len] at h1
                  have h2 : init.md.rest.length = 0 := rfl
                  omega
                have hin := err_in (show R.Ok 4096 by rw [← hR]; exact (init_ok 4096).run)
                obtain ⟨UU, hUU⟩ : ∃ UU, tx R.u = UU := ⟨_, rfl⟩
                rw [hUU] at rb
                clear hR hUU hSBl
                cases hdn : R.md.isDone with
                | false =>
                  have hbo : bodyOf UU R SB = bdV UU false 0 R.md.error := by unfold bodyOf; rw [hdn, if_neg (by simp)]
                  rw [hbo] at rb
                  obtain ⟨E, hE⟩ : ∃ E, R.md.error = E := ⟨_, rfl⟩
                  rw [hE] at rb
                  have wr := fun w => wrong_any E 413 (by omega) w
                  obtain ⟨st, hst⟩ : ∃ st, (if E = 17 ∨ E = 0 then (0 : Int) else if E = 4 then 413 else 400) = st := ⟨_, rfl⟩
                  rw [hst] at wr
                  have RS := Lib.hid (show st = 0 ∧ rdF l = .more ∨ rdF l = .bad st by
                    have hb : bodyC q R l.length = if E = 0 then .more else if E = 4 then .bad 413 else .bad 400 := by unfold bodyC; rw [hdn, if_neg (by simp), hE]
                    rw [hbc, hb, ← hst]
                    rw [hE] at hin
                    rcases hin with h | h | h <;> subst h <;> simp)
                  clear hbo hE hst hbc hdn hrl hin cl hSBz
                  go_enter Tryz.func12, Tryz.ntmps12
                  go_upto_region 2 with (refine wpl_store S0 rfl rfl rfl rfl rfl ?_)
                  clear S0
                  go_wp2_with fail
                  refine (SPL _).mono ?_
                  rintro e w1 ⟨v, rfl, FV, F1⟩
                  clear SPL
                  replace Z0 := Z0.old F1
                  have HFV := Lib.hid FV
                  obtain ⟨bv, kv, rfl, _, _⟩ := FV.is
                  clear FV F1
                  rw [H0.out, HX.out]
                  rw [hN]
                  go_wp2_with fail
                  refine (rl _).mono ?_
                  rintro e w2 ⟨rfl, F2⟩
                  clear rl
                  replace Z0 := Z0.old F2
                  have HFV2 := Lib.hid (HFV.out.below F2)
                  clear F2 HFV
                  have RH := rh w2 _ HFV2.out
                  clear rh
                  go_wp2_with fail
                  refine RH.mono ?_
                  rintro e w3 ⟨rfl, F3⟩
                  clear RH
                  replace Z0 := Z0.old F3
                  have HFV3 := Lib.hid (HFV2.out.below F3)
                  clear F3 HFV2
                  have RF := rf w3 _ HFV3.out
                  clear rf
                  go_wp2_with fail
                  refine RF.mono ?_
                  rintro e w4 ⟨rfl, F4⟩
                  clear RF
                  replace Z0 := Z0.old F4
                  have HFV4 := Lib.hid (HFV3.out.below F4)
                  clear F4 HFV3
                  go_wp2_with fail
                  refine (rb _).mono ?_
                  rintro e w5 ⟨rfl, F5⟩
                  clear rb hSB
                  replace Z0 := Z0.old F5
                  clear F5
                  obtain ⟨w6, S6, A6, F6, _⟩ := keep (P := Tryz.prog) (ty := 66) w5 (bdV ⟨#[]⟩ false 0 0) (bdV UU false 0 E) 66 (by rw [bdV_size]; kernel_rfl) rfl (bdV_one _ _ _ _)
                  have hB18 : w.heap.size < w5.heap.size := Z0.a.lt
                  replace Z0 := Z0.old F6
                  unfold bdV at S6
                  go_upto_region 16 with (refine wpl_store S6 rfl rfl rfl rfl rfl ?_)
                  clear S6 F6
                  generalize w5.heap.size = B18 at *
                  have c1 : w6.cell? ⟨B18, 1, none⟩ = some (.bool false) := A6.cell 1
                  have nB18 : B18 ≠ w.heap.size := by omega
                  go_upto_region 17 with (fail)
                  refine wp_region_held (S := fun u => Zz w u ∧ At u B18 66 (bdV UU false 0 E)) (by kernel_rfl) ?_
                  change wpAnyH _ _ _ _ _ _ _ _ w6.drew
                  have j0 : Zz w w6.drew ∧ At w6.drew B18 66 (bdV UU false 0 E) := ⟨Z0.drew, A6.drew⟩
                  have LZ := Lib.hid (fun u (hz : Zz w u ∧ At u B18 66 (bdV UU false 0 E)) => hz.1.nonel)
                  have CB := Lib.hid (fun u (hz : Zz w u ∧ At u B18 66 (bdV UU false 0 E)) => (show u.cell? ⟨B18, 3, none⟩ = some (.int .i64 E) from hz.2.cell 3))
                  unfold zR at LZ
                  generalize w6.drew = W at j0 ⊢
                  clear Z0 A6 c1
                  refine held_take 0 (.agg #[.string ⟨#[]⟩, .string ⟨#[]⟩, .slice none 0 0, .bool false]) rfl (by kernel_rfl) (by kernel_rfl) (by kernel_rfl) (fun _ _ _ h => h) (yields_load LZ.out rfl rfl rfl) j0 (fun K hK => ?_)
                  go_simp
                  refine hK _ _ ?_
                  clear hK K
                  refine held_take 1 (.pointer (some ⟨B18, 3, none⟩)) rfl (by kernel_rfl) (by kernel_rfl) (by kernel_rfl) (fun _ _ _ h => h) (Or.inl ⟨by rfl, fun x j => by go_simp⟩) j0 (fun K hK => ?_)
                  go_simp
                  refine hK _ _ ?_
                  clear hK K
                  refine held_take 2 (.int .i64 E) rfl (by kernel_rfl) (by kernel_rfl) (by kernel_rfl) (fun _ _ _ h => h) (Or.inl ⟨by rfl, fun x j => by have jc := CB.out _ j; go_simp⟩) j0 (fun K hK => ?_)
                  go_simp
                  refine hK _ _ ?_
                  clear hK K
                  refine held_one 3 (by kernel_rfl) (fun K hK => wpOp_in rfl rfl ?_)
                  go_simp
                  refine (wr _).mono ?_
                  rintro e u1 ⟨rfl, rfl⟩
                  refine hK _ _ j0 ?_
                  clear wr
                  clear hK K
                  refine held_one 4 (by kernel_rfl) (fun K hK => wpOp_in rfl rfl ?_)
                  have S2 := j0.1.stores
                  have j2 : _ ∧ _ := ⟨j0.1.store, j0.2.rowOther (ds := zR) nB18⟩
                  unfold zR at S2 j2
                  refine wpo_store S2 rfl rfl rfl rfl ?_
                  refine hK _ _ j2 ?_
                  clear S2 j0
                  clear hK K
                  refine held_take 5 (.int .i64 0) rfl (by kernel_rfl) (by kernel_rfl) (by kernel_rfl) (fun _ _ _ h => h) (Or.inl ⟨by rfl, fun x j => by go_simp⟩) j2 (fun K hK => ?_)
                  go_simp
                  refine hK _ _ ?_
                  clear hK K
                  refine held_take 6 (.int .i64 st) rfl (by kernel_rfl) (by kernel_rfl) (by kernel_rfl) (fun _ _ _ h => h) (Or.inl ⟨by rfl, fun x j => by go_simp⟩) j2 (fun K hK => ?_)
                  go_simp
                  refine hK _ _ ?_
                  clear hK K
                  refine wpAnyH_done (by kernel_rfl) ?_ _
                  go_wp2
                  refine bodyPost_ret (results_two Tryz.results12 _ rfl rfl rfl j2.1.loads) rfl ?_
                  exact rr_zero RS.out j2.1
                | true =>
                  obtain ⟨D, hD⟩ : ∃ D, SB.size - R.md.rest.length = D := ⟨_, rfl⟩
                  have hbo : bodyOf UU R SB = bdV UU true (D : Int) R.md.error := by unfold bodyOf; rw [hdn, if_pos rfl, hD]
                  rw [hbo] at rb
                  generalize R.md.error = E at *
                  have HOK := Lib.hid (show rdF l = .ok q (N + D) by
                    rw [hbc]
                    unfold bodyC
                    rw [hdn, if_pos rfl]
                    congr 1
                    omega)
                  have NEQ := Lib.hid (show ((N + D : Nat) : Int) = (N : Int) + (D : Int) by omega)
                  have hmax : max (D : Int) 0 = (D : Int) := by omega
                  have g20 : ¬ (s.size : Int) - (N : Int) < (D : Int) := by omega
                  have hDz : D ≤ 262144 := by omega
                  clear hbo hbc hdn hrl hin hSBz hD
                  go_enter Tryz.func12, Tryz.ntmps12
                  go_upto_region 2 with (refine wpl_store S0 rfl rfl rfl rfl rfl ?_)
                  clear S0
                  go_wp2_with fail
                  refine (SPL _).mono ?_
                  rintro e w1 ⟨v, rfl, FV, F1⟩
                  clear SPL
                  replace Z0 := Z0.old F1
                  have HFV := Lib.hid FV
                  obtain ⟨bv, kv, rfl, _, _⟩ := FV.is
                  clear FV F1
                  rw [H0.out, HX.out]
                  rw [hN]
                  go_wp2_with fail
                  refine (rl _).mono ?_
                  rintro e w2 ⟨rfl, F2⟩
                  clear rl
                  replace Z0 := Z0.old F2
                  have HFV2 := Lib.hid (HFV.out.below F2)
                  clear F2 HFV
                  have RH := rh w2 _ HFV2.out
                  clear rh
                  go_wp2_with fail
                  refine RH.mono ?_
                  rintro e w3 ⟨rfl, F3⟩
                  clear RH
                  replace Z0 := Z0.old F3
                  have HFV3 := Lib.hid (HFV2.out.below F3)
                  clear F3 HFV2
                  have RF := rf w3 _ HFV3.out
                  clear rf
                  go_wp2_with fail
                  refine RF.mono ?_
                  rintro e w4 ⟨rfl, F4⟩
                  clear RF
                  replace Z0 := Z0.old F4
                  have HFV4 := Lib.hid (HFV3.out.below F4)
                  clear F4 HFV3
                  go_wp2_with fail
                  refine (rb _).mono ?_
                  rintro e w5 ⟨rfl, F5⟩
                  clear rb hSB
                  replace Z0 := Z0.old F5
                  have HFV5 := Lib.hid (HFV4.out.below F5)
                  clear F5 HFV4
                  obtain ⟨w6, S6, A6, F6, _⟩ := keep (P := Tryz.prog) (ty := 66) w5 (bdV ⟨#[]⟩ false 0 0) (bdV UU true (D : Int) E) 66 (by rw [bdV_size]; kernel_rfl) rfl (bdV_one _ _ _ _)
                  replace Z0 := Z0.old F6
                  have HFV6 := Lib.hid (HFV5.out.below F6)
                  unfold bdV at S6
                  go_upto_region 16 with (refine wpl_store S6 rfl rfl rfl rfl rfl ?_)
                  clear S6 F6 HFV5
                  generalize w5.heap.size = B18 at *
                  have c1 : w6.cell? ⟨B18, 1, none⟩ = some (.bool true) := A6.cell 1
                  have c2 : w6.cell? ⟨B18, 2, none⟩ = some (.int .i64 (D : Int)) := A6.cell 2
                  clear A6
                  have CL := cl w6 _ HFV6.out
                  clear cl
                  go_wp2_with fail
                  refine CL.mono ?_
                  rintro e w8 ⟨rfl, F8⟩
                  clear CL
                  replace Z0 := Z0.old F8
                  have HFV8 := Lib.hid (HFV6.out.below F8)
                  clear F8 HFV6
                  have S9 : Stores Tryz.prog w8 30 w.heap.size 0 (rqV q (.slice bv (spl l).list.length kv)) (w8.setRow w.heap.size (rqV q (.slice bv (spl l).list.length kv))) := Z0.a.stores (by rw [rqV_size]; kernel_rfl) rfl (rq_one ⟨_, _, _, rfl⟩)
                  have L9 : Loads Tryz.prog (w8.setRow w.heap.size (rqV q (.slice bv (spl l).list.length kv))) 30 ⟨w.heap.size, 0, none⟩ (rqV q (.slice bv (spl l).list.length kv)) := (Z0.a.row _).loads (by kernel_rfl) (by rw [rqV_size]; kernel_rfl)
                  have B9 : Below w.heap.size w (w8.setRow w.heap.size (rqV q (.slice bv (spl l).list.length kv))) := below_row Z0.bel (Nat.le_refl _)
                  have V9 : FdsAt (w8.setRow w.heap.size (rqV q (.slice bv (spl l).list.length kv))) (.slice bv (spl l).list.length kv) q.fs := by
                    rw [QFS.out]
                    exact fds_kept HFV8.out (by simp) fun b hb => heap_setRow_other fun e => fds_far HFV8.out Z0.a NM.out (by rw [← e]; exact hb)
                  have HV9 := Lib.hid V9
                  generalize w8.setRow w.heap.size (rqV q (.slice bv (spl l).list.length kv)) = w9 at S9 L9 B9 HV9
                  rw [QEQ.out] at S9 L9
                  skip
                  clear Z0 V9 HFV8
                  go_wp2_with (refine wpl_store S9 rfl rfl rfl rfl rfl ?_)
                  refine bodyPost_ret (results_two Tryz.results12 _ rfl rfl rfl L9) rfl ?_
                  exact .inr ⟨q, N + D, .slice bv (spl l).list.length kv, HOK.out, by rw [NEQ.out, QEQ.out]; rfl, HV9.out, ⟨_, _, _, rfl⟩, B9⟩
            · obtain ⟨E, hE⟩ : ∃ E, (frF (spl l).list 4096).e = E := ⟨_, rfl⟩
              have wr := fun w => wrong_any E 413 (by omega) w
              obtain ⟨st, hst⟩ : ∃ st, (if E = 17 ∨ E = 0 then (0 : Int) else if E = 4 then 413 else 400) = st := ⟨_, rfl⟩
              rw [hst] at wr
              have RS := Lib.hid (show st = 0 ∧ rdF l = .more ∨ rdF l = .bad st by
                rw [← hst, if_neg (by omega)]
                refine .inr (rd_bad H0.out ?_)
                unfold headQ
                rw [hln]
                simp only
                rw [if_neg hgood]
                by_cases h4 : (frF (spl l).list 4096).e = 4
                · rw [if_pos h4, if_pos (by omega)]
                · rw [if_neg h4, if_pos (by omega), if_neg (by omega)])
              rw [hE] at rf
              have gE : (E != 0) = true := by rw [bne_iff_ne]; omega
              generalize (frF (spl l).list 4096).n = FN at rf
              generalize (frF (spl l).list 4096).c = FC at rf
              generalize tx m = M at *
              generalize tx t = TT at *
              clear hqe hfe hfn he0 hln hgood sst hE hst er
              go_enter Tryz.func12, Tryz.ntmps12
              go_upto_region 2 with (refine wpl_store S0 rfl rfl rfl rfl rfl ?_)
              clear S0
              go_wp2_with fail
              refine (SPL _).mono ?_
              rintro e w1 ⟨v, rfl, FV, F1⟩
              clear SPL
              replace Z0 := Z0.old F1
              have HFV := Lib.hid FV
              obtain ⟨bv, kv, rfl, _, _⟩ := FV.is
              clear FV F1
              rw [H0.out, HX.out]
              rw [hN]
              go_wp2_with fail
              refine (rl _).mono ?_
              rintro e w2 ⟨rfl, F2⟩
              clear rl
              replace Z0 := Z0.old F2
              have HFV2 := Lib.hid (HFV.out.below F2)
              clear F2 HFV
              have RH := rh w2 _ HFV2.out
              clear rh
              go_wp2_with fail
              refine RH.mono ?_
              rintro e w3 ⟨rfl, F3⟩
              clear RH
              replace Z0 := Z0.old F3
              have HFV3 := Lib.hid (HFV2.out.below F3)
              clear F3 HFV2
              have RF := rf w3 _ HFV3.out
              clear rf
              go_wp2_with fail
              refine RF.mono ?_
              rintro e w4 ⟨rfl, F4⟩
              clear RF
              replace Z0 := Z0.old F4
              have HFV4 := Lib.hid (HFV3.out.below F4)
              clear F4 HFV3
              go_upto_region 13 with (fail)
              refine wp_region_held (S := fun u => Zz w u) (by kernel_rfl) ?_
              change wpAnyH _ _ _ _ _ _ _ _ w4.drew
              have j0 := Z0.drew
              have LZ := Lib.hid (fun u (hz : Zz w u) => hz.nonel)
              unfold zR at LZ
              generalize w4.drew = W at j0 ⊢
              clear Z0
              refine held_take 0 (.agg #[.string ⟨#[]⟩, .string ⟨#[]⟩, .slice none 0 0, .bool false]) rfl (by kernel_rfl) (by kernel_rfl) (by kernel_rfl) (fun _ _ _ h => h) (yields_load LZ.out rfl rfl rfl) j0 (fun K hK => ?_)
              go_simp
              refine hK _ _ ?_
              clear hK K
              refine held_take 1 (.int .i64 E) rfl (by kernel_rfl) (by kernel_rfl) (by kernel_rfl) (fun _ _ _ h => h) (Or.inl ⟨by rfl, fun x j => by go_simp⟩) j0 (fun K hK => ?_)
              go_simp
              refine hK _ _ ?_
              clear hK K
              refine held_one 2 (by kernel_rfl) (fun K hK => wpOp_in rfl rfl ?_)
              go_simp
              refine (wr _).mono ?_
              rintro e u1 ⟨rfl, rfl⟩
              refine hK _ _ j0 ?_
              clear wr
              clear hK K
              refine held_one 3 (by kernel_rfl) (fun K hK => wpOp_in rfl rfl ?_)
              have S2 := j0.stores
              have j2 := j0.store
              unfold zR at S2 j2
              refine wpo_store S2 rfl rfl rfl rfl ?_
              refine hK _ _ j2 ?_
              clear S2 j0
              clear hK K
              refine held_take 4 (.int .i64 0) rfl (by kernel_rfl) (by kernel_rfl) (by kernel_rfl) (fun _ _ _ h => h) (Or.inl ⟨by rfl, fun x j => by go_simp⟩) j2 (fun K hK => ?_)
              go_simp
              refine hK _ _ ?_
              clear hK K
              refine held_take 5 (.int .i64 st) rfl (by kernel_rfl) (by kernel_rfl) (by kernel_rfl) (fun _ _ _ h => h) (Or.inl ⟨by rfl, fun x j => by go_simp⟩) j2 (fun K hK => ?_)
              go_simp
              refine hK _ _ ?_
              clear hK K
              refine wpAnyH_done (by kernel_rfl) ?_ _
              go_wp2
              refine bodyPost_ret (results_two Tryz.results12 _ rfl rfl rfl j2.loads) rfl ?_
              exact rr_zero RS.out j2
        · have g0 : ((NN : Int) == 0) = false := by rw [beq_eq_false_iff_ne]; omega
          have hgood : ¬ (1 < getN (ls nHost) (spl l).list ∨ (getN (ls nHost) (spl l).list = 0 ∧ k = 1)) := by omega
          clear hNN hb1 hn0
          obtain ⟨q, hqe⟩ : ∃ q : Rq, q = ⟨m, t, (spl l).list, closesF (spl l).list k⟩ := ⟨_, rfl⟩
          have rf := fun (u : World) (v : Value) (hv : FdsAt u v (spl l).list) => refFrame_any 4096 hv sh (by omega) (by omega)
          have hfe := fr_e (spl l).list
          have hfn := fr_n (spl l).list
          by_cases he0 : (frF (spl l).list 4096).e = 0
          · have HQ := Lib.hid (show headQ (spl l) = .ok (q, frF (spl l).list 4096) by
              unfold headQ
              rw [hln]
              simp only
              rw [if_neg hgood, if_neg (by omega), if_neg (by omega), hqe])
            have QFS := Lib.hid (show q.fs = (spl l).list by rw [hqe])
            have cl := fun (u : World) (v : Value) (hv : FdsAt u v (spl l).list) => refCloses_any (k : Int) (by omega) (by omega) hv sh
            have QEQ : Hid (∀ fv, rqV q fv = #[.string (tx m), .string (tx t), fv, .bool (closesF (spl l).list k)]) := Lib.hid fun fv => by rw [hqe]; rfl
            generalize tx m = M at *
            generalize tx t = TT at *
            generalize closesF (spl l).list k = CLV at *
            rw [he0] at rf
            cases hfc : (frF (spl l).list 4096).c with
            | false =>
              have HC := Lib.hid hfc
              rw [hfc] at rf
              obtain ⟨D, hD⟩ : ∃ D, (frF (spl l).list 4096).n.toNat = D := ⟨_, rfl⟩
              have hmax : max (frF (spl l).list 4096).n 0 = (D : Int) := by omega
              have hDz : D ≤ 4096 := by omega
              obtain ⟨FN, hFN⟩ : ∃ FN, (frF (spl l).list 4096).n = FN := ⟨_, rfl⟩
              rw [hFN] at rf hmax
              clear hqe hfe hfn he0 hln hgood sst hFN hfc er
              have hN0 : N ≤ s.size := by omega
              by_cases hlt : s.size < N + D
              · have g20 : (s.size : Int) - (N : Int) < (D : Int) := by omega
                have RS := Lib.hid (show (0 : Int) = 0 ∧ rdF l = .more ∨ rdF l = .bad 0 from .inl ⟨rfl, by rw [rd_sized H0.out HQ.out (by rw [HC.out]; simp), if_pos (by rw [hD, hN, hll]; exact hlt)]⟩)
                clear hlt cl
                go_enter Tryz.func12, Tryz.ntmps12
                go_upto_region 2 with (refine wpl_store S0 rfl rfl rfl rfl rfl ?_)
                clear S0
                go_wp2_with fail
                refine (SPL _).mono ?_
                rintro e w1 ⟨v, rfl, FV, F1⟩
                clear SPL
                replace Z0 := Z0.old F1
                have HFV := Lib.hid FV
                obtain ⟨bv, kv, rfl, _, _⟩ := FV.is
                clear FV F1
                rw [H0.out, HX.out]
                rw [hN]
                go_wp2_with fail
                refine (rl _).mono ?_
                rintro e w2 ⟨rfl, F2⟩
                clear rl
                replace Z0 := Z0.old F2
                have HFV2 := Lib.hid (HFV.out.below F2)
                clear F2 HFV
                have RH := rh w2 _ HFV2.out
                clear rh
                go_wp2_with fail
                refine RH.mono ?_
                rintro e w3 ⟨rfl, F3⟩
                clear RH
                replace Z0 := Z0.old F3
                have HFV3 := Lib.hid (HFV2.out.below F3)
                clear F3 HFV2
                have RF := rf w3 _ HFV3.out
                clear rf
                go_wp2_with fail
                refine RF.mono ?_
                rintro e w4 ⟨rfl, F4⟩
                clear RF
                replace Z0 := Z0.old F4
                have HFV4 := Lib.hid (HFV3.out.below F4)
                clear F4 HFV3
                have LZ := Z0.nonel
                have S2 := Z0.stores
                have Z2 := Z0.store
                unfold zR at LZ S2 Z2
                generalize World.setRow w4 w.heap.size #[.string ⟨#[]⟩, .string ⟨#[]⟩, .slice none 0 0, .bool false] = wz at S2 Z2
                clear Z0
                go_wp2_with (first | refine wpl_load LZ rfl rfl rfl ?_ | refine wpl_store S2 rfl rfl rfl rfl rfl ?_)
                refine bodyPost_ret (results_two Tryz.results12 _ rfl rfl rfl Z2.loads) rfl ?_
                exact rr_zero (st := 0) (RS.out.imp (fun h => ⟨rfl, h.2⟩) id) Z2
              · have g20 : ¬ (s.size : Int) - (N : Int) < (D : Int) := by omega
                have HOK := Lib.hid (show rdF l = .ok q (N + D) by rw [rd_sized H0.out HQ.out (by rw [HC.out]; simp), if_neg (by rw [hD, hN, hll]; exact hlt), hN, hD])
                have NEQ := Lib.hid (show ((N + D : Nat) : Int) = (N : Int) + (D : Int) by omega)
                clear hlt
                go_enter Tryz.func12, Tryz.ntmps12
                go_upto_region 2 with (refine wpl_store S0 rfl rfl rfl rfl rfl ?_)
                clear S0
                go_wp2_with fail
                refine (SPL _).mono ?_
                rintro e w1 ⟨v, rfl, FV, F1⟩
                clear SPL
                replace Z0 := Z0.old F1
                have HFV := Lib.hid FV
                obtain ⟨bv, kv, rfl, _, _⟩ := FV.is
                clear FV F1
                rw [H0.out, HX.out]
                rw [hN]
                go_wp2_with fail
                refine (rl _).mono ?_
                rintro e w2 ⟨rfl, F2⟩
                clear rl
                replace Z0 := Z0.old F2
                have HFV2 := Lib.hid (HFV.out.below F2)
                clear F2 HFV
                have RH := rh w2 _ HFV2.out
                clear rh
                go_wp2_with fail
                refine RH.mono ?_
                rintro e w3 ⟨rfl, F3⟩
                clear RH
                replace Z0 := Z0.old F3
                have HFV3 := Lib.hid (HFV2.out.below F3)
                clear F3 HFV2
                have RF := rf w3 _ HFV3.out
                clear rf
                go_wp2_with fail
                refine RF.mono ?_
                rintro e w4 ⟨rfl, F4⟩
                clear RF
                replace Z0 := Z0.old F4
                have HFV4 := Lib.hid (HFV3.out.below F4)
                clear F4 HFV3
                have CL := cl w4 _ HFV4.out
                clear cl
                go_wp2_with fail
                refine CL.mono ?_
                rintro e w8 ⟨rfl, F8⟩
                clear CL
                replace Z0 := Z0.old F8
                have HFV8 := Lib.hid (HFV4.out.below F8)
                clear F8 HFV4
                have S9 : Stores Tryz.prog w8 30 w.heap.size 0 (rqV q (.slice bv (spl l).list.length kv)) (w8.setRow w.heap.size (rqV q (.slice bv (spl l).list.length kv))) := Z0.a.stores (by rw [rqV_size]; kernel_rfl) rfl (rq_one ⟨_, _, _, rfl⟩)
                have L9 : Loads Tryz.prog (w8.setRow w.heap.size (rqV q (.slice bv (spl l).list.length kv))) 30 ⟨w.heap.size, 0, none⟩ (rqV q (.slice bv (spl l).list.length kv)) := (Z0.a.row _).loads (by kernel_rfl) (by rw [rqV_size]; kernel_rfl)
                have B9 : Below w.heap.size w (w8.setRow w.heap.size (rqV q (.slice bv (spl l).list.length kv))) := below_row Z0.bel (Nat.le_refl _)
                have V9 : FdsAt (w8.setRow w.heap.size (rqV q (.slice bv (spl l).list.length kv))) (.slice bv (spl l).list.length kv) q.fs := by
                  rw [QFS.out]
                  exact fds_kept HFV8.out (by simp) fun b hb => heap_setRow_other fun e => fds_far HFV8.out Z0.a NM.out (by rw [← e]; exact hb)
                have HV9 := Lib.hid V9
                generalize w8.setRow w.heap.size (rqV q (.slice bv (spl l).list.length kv)) = w9 at S9 L9 B9 HV9
                rw [QEQ.out] at S9 L9
                skip
                clear Z0 V9 HFV8
                go_wp2_with (refine wpl_store S9 rfl rfl rfl rfl rfl ?_)
                refine bodyPost_ret (results_two Tryz.results12 _ rfl rfl rfl L9) rfl ?_
                exact .inr ⟨q, N + D, .slice bv (spl l).list.length kv, HOK.out, by rw [NEQ.out, QEQ.out]; rfl, HV9.out, ⟨_, _, _, rfl⟩, B9⟩
            | true =>
              have HC := Lib.hid hfc
              rw [hfc] at rf
              generalize (frF (spl l).list 4096).n = FN at rf
              clear hqe hfe hfn he0 hln hgood sst hfc er
              have hN0 : N ≤ s.size := by omega
              obtain ⟨SB, hSB⟩ : ∃ SB, s.extract N s.size = SB := ⟨_, rfl⟩
              have hSBl : ls SB = l.drop N := by rw [← hSB, ls_extract, ← HL.out, List.take_of_length_le (by rw [List.length_drop, ls_len]; exact Nat.le_refl _)]
              have hSBz : SB.size + N = s.size := by
                have := congrArg List.length hSBl
                rw [ls_len, List.length_drop] at this
                omega
              have rb := fun w => rread_any SB 4096 (by omega) (by omega) (by omega) w
              rw [hSBl] at rb
              obtain ⟨R, hR⟩ : ∃ R, run 4096 init (l.drop N) = R := ⟨_, rfl⟩
              rw [show ((4096 : Int)).toNat = 4096 from rfl, hR] at rb
              have hbc : rdF l = bodyC q R l.length := by rw [rd_chunks H0.out HQ.out HC.out, hN, hR]
              have hrl : R.md.rest.length ≤ SB.size := by
                have h1 := rest_le 4096 (l.drop N) init
                rw [hR, ← hSBl, ls_len] at h1
                have h2 : init.md.rest.length = 0 := rfl
                omega
              have hin := err_in (show R.Ok 4096 by rw [← hR]; exact (init_ok 4096).run)
              obtain ⟨UU, hUU⟩ : ∃ UU, tx R.u = UU := ⟨_, rfl⟩
              rw [hUU] at rb
              clear hR hUU hSBl
              cases hdn : R.md.isDone with
              | false =>
                have hbo : bodyOf UU R SB = bdV UU false 0 R.md.error := by unfold bodyOf; rw [hdn, if_neg (by simp)]
                rw [hbo] at rb
                obtain ⟨E, hE⟩ : ∃ E, R.md.error = E := ⟨_, rfl⟩
                rw [hE] at rb
                have wr := fun w => wrong_any E 413 (by omega) w
                obtain ⟨st, hst⟩ : ∃ st, (if E = 17 ∨ E = 0 then (0 : Int) else if E = 4 then 413 else 400) = st := ⟨_, rfl⟩
                rw [hst] at wr
                have RS := Lib.hid (show st = 0 ∧ rdF l = .more ∨ rdF l = .bad st by
                  have hb : bodyC q R l.length = if E = 0 then .more else if E = 4 then .bad 413 else .bad 400 := by unfold bodyC; rw [hdn, if_neg (by simp), hE]
                  rw [hbc, hb, ← hst]
                  rw [hE] at hin
                  rcases hin with h | h | h <;> subst h <;> simp)
                clear hbo hE hst hbc hdn hrl hin cl hSBz
                go_enter Tryz.func12, Tryz.ntmps12
                go_upto_region 2 with (refine wpl_store S0 rfl rfl rfl rfl rfl ?_)
                clear S0
                go_wp2_with fail
                refine (SPL _).mono ?_
                rintro e w1 ⟨v, rfl, FV, F1⟩
                clear SPL
                replace Z0 := Z0.old F1
                have HFV := Lib.hid FV
                obtain ⟨bv, kv, rfl, _, _⟩ := FV.is
                clear FV F1
                rw [H0.out, HX.out]
                rw [hN]
                go_wp2_with fail
                refine (rl _).mono ?_
                rintro e w2 ⟨rfl, F2⟩
                clear rl
                replace Z0 := Z0.old F2
                have HFV2 := Lib.hid (HFV.out.below F2)
                clear F2 HFV
                have RH := rh w2 _ HFV2.out
                clear rh
                go_wp2_with fail
                refine RH.mono ?_
                rintro e w3 ⟨rfl, F3⟩
                clear RH
                replace Z0 := Z0.old F3
                have HFV3 := Lib.hid (HFV2.out.below F3)
                clear F3 HFV2
                have RF := rf w3 _ HFV3.out
                clear rf
                go_wp2_with fail
                refine RF.mono ?_
                rintro e w4 ⟨rfl, F4⟩
                clear RF
                replace Z0 := Z0.old F4
                have HFV4 := Lib.hid (HFV3.out.below F4)
                clear F4 HFV3
                go_wp2_with fail
                refine (rb _).mono ?_
                rintro e w5 ⟨rfl, F5⟩
                clear rb hSB
                replace Z0 := Z0.old F5
                clear F5
                obtain ⟨w6, S6, A6, F6, _⟩ := keep (P := Tryz.prog) (ty := 66) w5 (bdV ⟨#[]⟩ false 0 0) (bdV UU false 0 E) 66 (by rw [bdV_size]; kernel_rfl) rfl (bdV_one _ _ _ _)
                have hB18 : w.heap.size < w5.heap.size := Z0.a.lt
                replace Z0 := Z0.old F6
                unfold bdV at S6
                go_upto_region 16 with (refine wpl_store S6 rfl rfl rfl rfl rfl ?_)
                clear S6 F6
                generalize w5.heap.size = B18 at *
                have c1 : w6.cell? ⟨B18, 1, none⟩ = some (.bool false) := A6.cell 1
                have nB18 : B18 ≠ w.heap.size := by omega
                go_upto_region 17 with (fail)
                refine wp_region_held (S := fun u => Zz w u ∧ At u B18 66 (bdV UU false 0 E)) (by kernel_rfl) ?_
                change wpAnyH _ _ _ _ _ _ _ _ w6.drew
                have j0 : Zz w w6.drew ∧ At w6.drew B18 66 (bdV UU false 0 E) := ⟨Z0.drew, A6.drew⟩
                have LZ := Lib.hid (fun u (hz : Zz w u ∧ At u B18 66 (bdV UU false 0 E)) => hz.1.nonel)
                have CB := Lib.hid (fun u (hz : Zz w u ∧ At u B18 66 (bdV UU false 0 E)) => (show u.cell? ⟨B18, 3, none⟩ = some (.int .i64 E) from hz.2.cell 3))
                unfold zR at LZ
                generalize w6.drew = W at j0 ⊢
                clear Z0 A6 c1
                refine held_take 0 (.agg #[.string ⟨#[]⟩, .string ⟨#[]⟩, .slice none 0 0, .bool false]) rfl (by kernel_rfl) (by kernel_rfl) (by kernel_rfl) (fun _ _ _ h => h) (yields_load LZ.out rfl rfl rfl) j0 (fun K hK => ?_)
                go_simp
                refine hK _ _ ?_
                clear hK K
                refine held_take 1 (.pointer (some ⟨B18, 3, none⟩)) rfl (by kernel_rfl) (by kernel_rfl) (by kernel_rfl) (fun _ _ _ h => h) (Or.inl ⟨by rfl, fun x j => by go_simp⟩) j0 (fun K hK => ?_)
                go_simp
                refine hK _ _ ?_
                clear hK K
                refine held_take 2 (.int .i64 E) rfl (by kernel_rfl) (by kernel_rfl) (by kernel_rfl) (fun _ _ _ h => h) (Or.inl ⟨by rfl, fun x j => by have jc := CB.out _ j; go_simp⟩) j0 (fun K hK => ?_)
                go_simp
                refine hK _ _ ?_
                clear hK K
                refine held_one 3 (by kernel_rfl) (fun K hK => wpOp_in rfl rfl ?_)
                go_simp
                refine (wr _).mono ?_
                rintro e u1 ⟨rfl, rfl⟩
                refine hK _ _ j0 ?_
                clear wr
                clear hK K
                refine held_one 4 (by kernel_rfl) (fun K hK => wpOp_in rfl rfl ?_)
                have S2 := j0.1.stores
                have j2 : _ ∧ _ := ⟨j0.1.store, j0.2.rowOther (ds := zR) nB18⟩
                unfold zR at S2 j2
                refine wpo_store S2 rfl rfl rfl rfl ?_
                refine hK _ _ j2 ?_
                clear S2 j0
                clear hK K
                refine held_take 5 (.int .i64 0) rfl (by kernel_rfl) (by kernel_rfl) (by kernel_rfl) (fun _ _ _ h => h) (Or.inl ⟨by rfl, fun x j => by go_simp⟩) j2 (fun K hK => ?_)
                go_simp
                refine hK _ _ ?_
                clear hK K
                refine held_take 6 (.int .i64 st) rfl (by kernel_rfl) (by kernel_rfl) (by kernel_rfl) (fun _ _ _ h => h) (Or.inl ⟨by rfl, fun x j => by go_simp⟩) j2 (fun K hK => ?_)
                go_simp
                refine hK _ _ ?_
                clear hK K
                refine wpAnyH_done (by kernel_rfl) ?_ _
                go_wp2
                refine bodyPost_ret (results_two Tryz.results12 _ rfl rfl rfl j2.1.loads) rfl ?_
                exact rr_zero RS.out j2.1
              | true =>
                obtain ⟨D, hD⟩ : ∃ D, SB.size - R.md.rest.length = D := ⟨_, rfl⟩
                have hbo : bodyOf UU R SB = bdV UU true (D : Int) R.md.error := by unfold bodyOf; rw [hdn, if_pos rfl, hD]
                rw [hbo] at rb
                generalize R.md.error = E at *
                have HOK := Lib.hid (show rdF l = .ok q (N + D) by
                  rw [hbc]
                  unfold bodyC
                  rw [hdn, if_pos rfl]
                  congr 1
                  omega)
                have NEQ := Lib.hid (show ((N + D : Nat) : Int) = (N : Int) + (D : Int) by omega)
                have hmax : max (D : Int) 0 = (D : Int) := by omega
                have g20 : ¬ (s.size : Int) - (N : Int) < (D : Int) := by omega
                have hDz : D ≤ 262144 := by omega
                clear hbo hbc hdn hrl hin hSBz hD
                go_enter Tryz.func12, Tryz.ntmps12
                go_upto_region 2 with (refine wpl_store S0 rfl rfl rfl rfl rfl ?_)
                clear S0
                go_wp2_with fail
                refine (SPL _).mono ?_
                rintro e w1 ⟨v, rfl, FV, F1⟩
                clear SPL
                replace Z0 := Z0.old F1
                have HFV := Lib.hid FV
                obtain ⟨bv, kv, rfl, _, _⟩ := FV.is
                clear FV F1
                rw [H0.out, HX.out]
                rw [hN]
                go_wp2_with fail
                refine (rl _).mono ?_
                rintro e w2 ⟨rfl, F2⟩
                clear rl
                replace Z0 := Z0.old F2
                have HFV2 := Lib.hid (HFV.out.below F2)
                clear F2 HFV
                have RH := rh w2 _ HFV2.out
                clear rh
                go_wp2_with fail
                refine RH.mono ?_
                rintro e w3 ⟨rfl, F3⟩
                clear RH
                replace Z0 := Z0.old F3
                have HFV3 := Lib.hid (HFV2.out.below F3)
                clear F3 HFV2
                have RF := rf w3 _ HFV3.out
                clear rf
                go_wp2_with fail
                refine RF.mono ?_
                rintro e w4 ⟨rfl, F4⟩
                clear RF
                replace Z0 := Z0.old F4
                have HFV4 := Lib.hid (HFV3.out.below F4)
                clear F4 HFV3
                go_wp2_with fail
                refine (rb _).mono ?_
                rintro e w5 ⟨rfl, F5⟩
                clear rb hSB
                replace Z0 := Z0.old F5
                have HFV5 := Lib.hid (HFV4.out.below F5)
                clear F5 HFV4
                obtain ⟨w6, S6, A6, F6, _⟩ := keep (P := Tryz.prog) (ty := 66) w5 (bdV ⟨#[]⟩ false 0 0) (bdV UU true (D : Int) E) 66 (by rw [bdV_size]; kernel_rfl) rfl (bdV_one _ _ _ _)
                replace Z0 := Z0.old F6
                have HFV6 := Lib.hid (HFV5.out.below F6)
                unfold bdV at S6
                go_upto_region 16 with (refine wpl_store S6 rfl rfl rfl rfl rfl ?_)
                clear S6 F6 HFV5
                generalize w5.heap.size = B18 at *
                have c1 : w6.cell? ⟨B18, 1, none⟩ = some (.bool true) := A6.cell 1
                have c2 : w6.cell? ⟨B18, 2, none⟩ = some (.int .i64 (D : Int)) := A6.cell 2
                clear A6
                have CL := cl w6 _ HFV6.out
                clear cl
                go_wp2_with fail
                refine CL.mono ?_
                rintro e w8 ⟨rfl, F8⟩
                clear CL
                replace Z0 := Z0.old F8
                have HFV8 := Lib.hid (HFV6.out.below F8)
                clear F8 HFV6
                have S9 : Stores Tryz.prog w8 30 w.heap.size 0 (rqV q (.slice bv (spl l).list.length kv)) (w8.setRow w.heap.size (rqV q (.slice bv (spl l).list.length kv))) := Z0.a.stores (by rw [rqV_size]; kernel_rfl) rfl (rq_one ⟨_, _, _, rfl⟩)
                have L9 : Loads Tryz.prog (w8.setRow w.heap.size (rqV q (.slice bv (spl l).list.length kv))) 30 ⟨w.heap.size, 0, none⟩ (rqV q (.slice bv (spl l).list.length kv)) := (Z0.a.row _).loads (by kernel_rfl) (by rw [rqV_size]; kernel_rfl)
                have B9 : Below w.heap.size w (w8.setRow w.heap.size (rqV q (.slice bv (spl l).list.length kv))) := below_row Z0.bel (Nat.le_refl _)
                have V9 : FdsAt (w8.setRow w.heap.size (rqV q (.slice bv (spl l).list.length kv))) (.slice bv (spl l).list.length kv) q.fs := by
                  rw [QFS.out]
                  exact fds_kept HFV8.out (by simp) fun b hb => heap_setRow_other fun e => fds_far HFV8.out Z0.a NM.out (by rw [← e]; exact hb)
                have HV9 := Lib.hid V9
                generalize w8.setRow w.heap.size (rqV q (.slice bv (spl l).list.length kv)) = w9 at S9 L9 B9 HV9
                rw [QEQ.out] at S9 L9
                skip
                clear Z0 V9 HFV8
                go_wp2_with (refine wpl_store S9 rfl rfl rfl rfl rfl ?_)
                refine bodyPost_ret (results_two Tryz.results12 _ rfl rfl rfl L9) rfl ?_
                exact .inr ⟨q, N + D, .slice bv (spl l).list.length kv, HOK.out, by rw [NEQ.out, QEQ.out]; rfl, HV9.out, ⟨_, _, _, rfl⟩, B9⟩
          · obtain ⟨E, hE⟩ : ∃ E, (frF (spl l).list 4096).e = E := ⟨_, rfl⟩
            have wr := fun w => wrong_any E 413 (by omega) w
            obtain ⟨st, hst⟩ : ∃ st, (if E = 17 ∨ E = 0 then (0 : Int) else if E = 4 then 413 else 400) = st := ⟨_, rfl⟩
            rw [hst] at wr
            have RS := Lib.hid (show st = 0 ∧ rdF l = .more ∨ rdF l = .bad st by
              rw [← hst, if_neg (by omega)]
              refine .inr (rd_bad H0.out ?_)
              unfold headQ
              rw [hln]
              simp only
              rw [if_neg hgood]
              by_cases h4 : (frF (spl l).list 4096).e = 4
              · rw [if_pos h4, if_pos (by omega)]
              · rw [if_neg h4, if_pos (by omega), if_neg (by omega)])
            rw [hE] at rf
            have gE : (E != 0) = true := by rw [bne_iff_ne]; omega
            generalize (frF (spl l).list 4096).n = FN at rf
            generalize (frF (spl l).list 4096).c = FC at rf
            generalize tx m = M at *
            generalize tx t = TT at *
            clear hqe hfe hfn he0 hln hgood sst hE hst er
            go_enter Tryz.func12, Tryz.ntmps12
            go_upto_region 2 with (refine wpl_store S0 rfl rfl rfl rfl rfl ?_)
            clear S0
            go_wp2_with fail
            refine (SPL _).mono ?_
            rintro e w1 ⟨v, rfl, FV, F1⟩
            clear SPL
            replace Z0 := Z0.old F1
            have HFV := Lib.hid FV
            obtain ⟨bv, kv, rfl, _, _⟩ := FV.is
            clear FV F1
            rw [H0.out, HX.out]
            rw [hN]
            go_wp2_with fail
            refine (rl _).mono ?_
            rintro e w2 ⟨rfl, F2⟩
            clear rl
            replace Z0 := Z0.old F2
            have HFV2 := Lib.hid (HFV.out.below F2)
            clear F2 HFV
            have RH := rh w2 _ HFV2.out
            clear rh
            go_wp2_with fail
            refine RH.mono ?_
            rintro e w3 ⟨rfl, F3⟩
            clear RH
            replace Z0 := Z0.old F3
            have HFV3 := Lib.hid (HFV2.out.below F3)
            clear F3 HFV2
            have RF := rf w3 _ HFV3.out
            clear rf
            go_wp2_with fail
            refine RF.mono ?_
            rintro e w4 ⟨rfl, F4⟩
            clear RF
            replace Z0 := Z0.old F4
            have HFV4 := Lib.hid (HFV3.out.below F4)
            clear F4 HFV3
            go_upto_region 13 with (fail)
            refine wp_region_held (S := fun u => Zz w u) (by kernel_rfl) ?_
            change wpAnyH _ _ _ _ _ _ _ _ w4.drew
            have j0 := Z0.drew
            have LZ := Lib.hid (fun u (hz : Zz w u) => hz.nonel)
            unfold zR at LZ
            generalize w4.drew = W at j0 ⊢
            clear Z0
            refine held_take 0 (.agg #[.string ⟨#[]⟩, .string ⟨#[]⟩, .slice none 0 0, .bool false]) rfl (by kernel_rfl) (by kernel_rfl) (by kernel_rfl) (fun _ _ _ h => h) (yields_load LZ.out rfl rfl rfl) j0 (fun K hK => ?_)
            go_simp
            refine hK _ _ ?_
            clear hK K
            refine held_take 1 (.int .i64 E) rfl (by kernel_rfl) (by kernel_rfl) (by kernel_rfl) (fun _ _ _ h => h) (Or.inl ⟨by rfl, fun x j => by go_simp⟩) j0 (fun K hK => ?_)
            go_simp
            refine hK _ _ ?_
            clear hK K
            refine held_one 2 (by kernel_rfl) (fun K hK => wpOp_in rfl rfl ?_)
            go_simp
            refine (wr _).mono ?_
            rintro e u1 ⟨rfl, rfl⟩
            refine hK _ _ j0 ?_
            clear wr
            clear hK K
            refine held_one 3 (by kernel_rfl) (fun K hK => wpOp_in rfl rfl ?_)
            have S2 := j0.stores
            have j2 := j0.store
            unfold zR at S2 j2
            refine wpo_store S2 rfl rfl rfl rfl ?_
            refine hK _ _ j2 ?_
            clear S2 j0
            clear hK K
            refine held_take 4 (.int .i64 0) rfl (by kernel_rfl) (by kernel_rfl) (by kernel_rfl) (fun _ _ _ h => h) (Or.inl ⟨by rfl, fun x j => by go_simp⟩) j2 (fun K hK => ?_)
            go_simp
            refine hK _ _ ?_
            clear hK K
            refine held_take 5 (.int .i64 st) rfl (by kernel_rfl) (by kernel_rfl) (by kernel_rfl) (fun _ _ _ h => h) (Or.inl ⟨by rfl, fun x j => by go_simp⟩) j2 (fun K hK => ?_)
            go_simp
            refine hK _ _ ?_
            clear hK K
            refine wpAnyH_done (by kernel_rfl) ?_ _
            go_wp2
            refine bodyPost_ret (results_two Tryz.results12 _ rfl rfl rfl j2.loads) rfl ?_
            exact rr_zero RS.out j2
end Go.Proofs.YtbngfphiachnoaaGreatDoor.In
