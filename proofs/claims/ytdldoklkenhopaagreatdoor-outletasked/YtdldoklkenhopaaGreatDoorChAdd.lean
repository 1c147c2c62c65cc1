/-
  Contract of Add of package chunk: the struct goes where the machine goes.
-/
import Derived.Test.YtdldoklkenhopaaGreatDoorChAdd1
import Derived.WalkMore
namespace Go.Proofs.YtdldoklkenhopaaGreatDoor.Ch
open Go.RowKit Go.PlainAid
open Hx Fi
set_option linter.unusedVariables false
set_option maxRecDepth 20000
set_option linter.unusedSimpArgs false

set_option maxRecDepth 100000 in
set_option maxHeartbeats 8000000 in
theorem add_any {w : World} {p : Nat} {Z : Nat → Prop} {c : C} {most : Nat} {s0 : CS} (H : Has w p Z c) (hs : St most s0 c) (ok : s0.Ok most) (hm : (most : Int) ≤ 9223372036854775807) (s : ByteArray) (hz : s.size ≤ 549755813888) (hu : s0.u.length + s.size ≤ 1099511627776) (hr : s0.md.rest.length + s.size ≤ 1099511627776) :
    Calls Tryz.prog 40 #[.pointer (some ⟨p, 0, none⟩), .string s] w (AddPost w p Z most (run most s0 (ls s))) := by
  have I0 : Inv w w p Z most s0 (ls s) s := ⟨s0, c, Z, H, Goes.refl _ _, hs, ok, rfl, by rw [ls_len]; exact Nat.le_refl _, by rw [ls_len]; exact Nat.le_refl _⟩
  have hz1 : s.size ≤ (ls s).length := by rw [ls_len]; exact Nat.le_refl _
  rw [← ls_len] at hz hu hr
  generalize ls s = l0 at *
  have HU := Lib.hid hu
  have HR := Lib.hid hr
  have HZ := Lib.hid hz
  have HM := Lib.hid hm
  clear hs ok H hu hr hz hm
  go_enter Tryz.func40, Tryz.ntmps40
  go_wp2_with fail
  go_step3
  go_wp2_with fail
  go_step3
  go_wp2_with fail
  go_loopw [1] (fun v wr => ∃ r : ByteArray, v = .string r ∧ r.size ≤ l0.length ∧ Inv w wr p Z most s0 l0 r) (fun v _ => Lib.strSize v)
  case atStart => exact ⟨s, rfl, hz1, I0⟩
  case round =>
    clear I0 hz1
    obtain ⟨r, rfl, hrz, hI⟩ := hrel
    by_cases h0 : r.size = 0
    · have F := hI.over h0
      have d8 := F.cell
      have h1 := toList_nil r h0
      clear h0 hI
      go_wp2
      rw [Exit.noGoto_ret]
      go_ret
      exact ⟨rfl, F⟩
    · have hp : 0 < r.size := by omega
      have h1 := toList_ne r hp
      have h2 := toList_ne' r hp
      have hz2 : r.size ≤ 549755813888 := by have := HZ.out; omega
      obtain ⟨q, cc, Z', ⟨x, y, z, H⟩, G, st, ok, he, hu2, hr2⟩ := hI.is
      clear hI h0
      have hw := st.wr
      have d8 := H.c8
      have d0 := H.c0
      have f8 := H.fz 8
      rw [hw] at d8
      have ha := st.at_
      cases hmd : q.md with
      | err e =>
        rw [hmd] at ha d8
        simp only [MdAt, Md.error] at ha d8
        have g8 : (e == 0) = false := by rw [beq_eq_false_iff_ne]; omega
        have F : Fin w wr p Z most (run most s0 l0) := by
          obtain ⟨md, n, u⟩ := q
          simp only at hmd
          subst hmd
          rw [run_err] at he
          rw [← he]
          exact ⟨cc, Z', ⟨x, y, z, H⟩, G, st⟩
        have d9 := F.cell
        rw [d8] at d9
        have D9 := Lib.hid d9
        clear ha hw st H he ok d9 hmd
        go_wp2
        rw [Exit.noGoto_ret]
        go_ret
        exact ⟨by have := Option.some.inj D9.out; rw [← this]; rfl, F⟩
      | data k =>
        rw [hmd] at ha d8
        simp only [MdAt, Md.error] at ha d8
        rw [ha.1] at d0
        have sd := step_data H G st ok hmd he HM.out hp hu2 hr2 HU.out
        clear ha hw st H he ok hmd hu2 hr2 G
        go_wp2_with fail
        refine sd.mono ?_
        rintro e w1 ⟨r1, rfl, hlt, I1⟩
        clear sd d0 d8 f8
        go_wp2
        go_roundw
        case rel => exact ⟨r1, rfl, by omega, I1⟩
        case measure => exact hlt
      | cr =>
        rw [hmd] at ha d8
        simp only [MdAt, Md.error] at ha d8
        rw [ha.1] at d0
        have sd := step_end H G st ok (.inl hmd) he hp hz2 hu2 hr2
        clear ha hw st H he ok hmd hu2 hr2 G
        go_wp2_with fail
        refine sd.mono ?_
        rintro e w1 ⟨r1, e1, rfl, hlt, I1⟩
        obtain ⟨⟨v8, c8⟩, g8⟩ := I1.cell
        have I2 := I1.store
        clear sd d0 d8 f8 I1
        go_wp2
        go_roundw
        case rel => exact ⟨r1, rfl, by omega, I2⟩
        case measure => exact hlt
      | lf =>
        rw [hmd] at ha d8
        simp only [MdAt, Md.error] at ha d8
        rw [ha.1] at d0
        have sd := step_end H G st ok (.inr hmd) he hp hz2 hu2 hr2
        clear ha hw st H he ok hmd hu2 hr2 G
        go_wp2_with fail
        refine sd.mono ?_
        rintro e w1 ⟨r1, e1, rfl, hlt, I1⟩
        obtain ⟨⟨v8, c8⟩, g8⟩ := I1.cell
        have I2 := I1.store
        clear sd d0 d8 f8 I1
        go_wp2
        go_roundw
        case rel => exact ⟨r1, rfl, by omega, I2⟩
        case measure => exact hlt
      | line acc =>
        rw [hmd] at ha d8
        simp only [MdAt, Md.error] at ha d8
        rw [ha.1] at d0
        rcases line_cases acc (ls r) (ha.2.2.1) with ⟨h10, hl⟩ | hrest
        · rw [ls_len] at hl
          have sw := step_wait H G st (.inl hmd) he hp hz2 h10 hl
          clear ha hw st H he ok hmd hu2 hr2 G h10 hl
          go_wp2_with fail
          refine sw.mono ?_
          rintro e w1 ⟨rfl, F⟩
          have c8 := F.cell
          clear sw d0 d8 f8
          go_wp2
          rw [Exit.noGoto_ret]
          go_ret
          exact ⟨rfl, F⟩
        have hc : (((10 : UInt8) ∉ (ls r).take (256 - acc.length) ∧ 256 ≤ acc.length + r.size) ∨ ∃ q t, ls r = q ++ 10 :: t ∧ (10 : UInt8) ∉ q ∧ acc.length + q.length ≤ 255 ∧ (acc ++ q).getLast? ≠ some 13) ∨ ∃ a t ln, ls r = a ++ 10 :: t ∧ (10 : UInt8) ∉ a ∧ acc.length + a.length ≤ 255 ∧ acc ++ a = ln ++ [13] := by
          rcases hrest with ⟨a, b⟩ | ⟨a, t, h3, h4, h5⟩
          · exact .inl (.inl ⟨a, by rw [ls_len] at b; exact b⟩)
          · by_cases h6 : (acc ++ a).getLast? = some 13
            · obtain ⟨ln, e⟩ := List.getLast?_eq_some_iff.1 h6
              exact .inr ⟨a, t, ln, h3, h4, h5, e⟩
            · exact .inl (.inr ⟨a, t, h3, h4, h5, h6⟩)
        clear hrest
        rcases hc with hf | ⟨a, t, ln, hq, h10, hl, h13⟩
        · have sf := step_fail H G st ok (.inl hmd) he hp hz2 hu2 hf
          clear ha hw st H he ok hmd hu2 hr2 G hf
          go_wp2_with fail
          refine sf.mono ?_
          rintro e w1 ⟨rfl, I1⟩
          obtain ⟨⟨v8, c8⟩, g8⟩ := I1.cell
          have I2 := I1.store
          clear sf d0 d8 f8 I1
          go_wp2
          go_roundw
          case rel => exact ⟨⟨#[]⟩, rfl, Nat.zero_le _, I2⟩
          case measure => exact hp
        · have sl := step_line H G st ok hmd he HM.out hp hz2 hu2 hr2 hq h10 hl h13
          have hlt : t.length < r.size := by rw [← ls_len, hq]; simp; omega
          clear ha hw st H he ok hmd hu2 hr2 G hq h10 hl h13
          generalize hT : tx t = T at sl
          have hTz : T.size = t.length := by rw [← hT]; rfl
          have hlt2 : T.size < r.size := by omega
          clear hT hTz hlt
          generalize tx ln = LN at sl
          go_wp2_with fail
          refine sl.mono ?_
          rintro e w1 ⟨rfl, c0, sz⟩
          clear sl d0 d8 f8
          go_wp2_with fail
          refine sz.mono ?_
          rintro e w2 ⟨e1, rfl, I1⟩
          obtain ⟨⟨v8, c8⟩, g8⟩ := I1.cell
          have I2 := I1.store
          clear sz c0 I1
          go_wp2
          go_roundw
          case rel => exact ⟨T, rfl, by omega, I2⟩
          case measure => exact hlt2
      | trail acc k =>
        rw [hmd] at ha d8
        simp only [MdAt, Md.error] at ha d8
        rw [ha.1] at d0
        rcases line_cases acc (ls r) (ha.2.2.1) with ⟨h10, hl⟩ | hrest
        · rw [ls_len] at hl
          have sw := step_wait H G st (.inr ⟨k, hmd⟩) he hp hz2 h10 hl
          clear ha hw st H he ok hmd hu2 hr2 G h10 hl
          go_wp2_with fail
          refine sw.mono ?_
          rintro e w1 ⟨rfl, F⟩
          have c8 := F.cell
          clear sw d0 d8 f8
          go_wp2
          rw [Exit.noGoto_ret]
          go_ret
          exact ⟨rfl, F⟩
        have hc : (((10 : UInt8) ∉ (ls r).take (256 - acc.length) ∧ 256 ≤ acc.length + r.size) ∨ ∃ q t, ls r = q ++ 10 :: t ∧ (10 : UInt8) ∉ q ∧ acc.length + q.length ≤ 255 ∧ (acc ++ q).getLast? ≠ some 13) ∨ ∃ a t ln, ls r = a ++ 10 :: t ∧ (10 : UInt8) ∉ a ∧ acc.length + a.length ≤ 255 ∧ acc ++ a = ln ++ [13] := by
          rcases hrest with ⟨a, b⟩ | ⟨a, t, h3, h4, h5⟩
          · exact .inl (.inl ⟨a, by rw [ls_len] at b; exact b⟩)
          · by_cases h6 : (acc ++ a).getLast? = some 13
            · obtain ⟨ln, e⟩ := List.getLast?_eq_some_iff.1 h6
              exact .inr ⟨a, t, ln, h3, h4, h5, e⟩
            · exact .inl (.inr ⟨a, t, h3, h4, h5, h6⟩)
        clear hrest
        rcases hc with hf | ⟨a, t, ln, hq, h10, hl, h13⟩
        · have sf := step_fail H G st ok (.inr ⟨k, hmd⟩) he hp hz2 hu2 hf
          clear ha hw st H he ok hmd hu2 hr2 G hf
          go_wp2_with fail
          refine sf.mono ?_
          rintro e w1 ⟨rfl, I1⟩
          obtain ⟨⟨v8, c8⟩, g8⟩ := I1.cell
          have I2 := I1.store
          clear sf d0 d8 f8 I1
          go_wp2
          go_roundw
          case rel => exact ⟨⟨#[]⟩, rfl, Nat.zero_le _, I2⟩
          case measure => exact hp
        · have sl := step_trail H G st ok hmd he hp hz2 hu2 hr2 hq h10 hl h13
          have hlt : t.length < r.size := by rw [← ls_len, hq]; simp; omega
          clear ha hw st H he ok hmd hu2 hr2 G hq h10 hl h13
          generalize hT : tx t = T at sl
          have hTz : T.size = t.length := by rw [← hT]; rfl
          have hlt2 : T.size < r.size := by omega
          clear hT hTz hlt
          generalize tx ln = LN at sl
          go_wp2_with fail
          refine sl.mono ?_
          rintro e w1 ⟨rfl, c0, sz⟩
          clear sl d0 d8 f8
          go_wp2_with fail
          refine sz.mono ?_
          rintro e w2 ⟨e1, rfl, I1⟩
          obtain ⟨⟨v8, c8⟩, g8⟩ := I1.cell
          have I2 := I1.store
          clear sz c0 I1
          go_wp2
          go_roundw
          case rel => exact ⟨T, rfl, by omega, I2⟩
          case measure => exact hlt2
      | done rs =>
        rw [hmd] at ha d8
        simp only [MdAt, Md.error] at ha d8
        rw [ha.1] at d0
        have hrl : cc.rest.length + r.size ≤ 1099511627776 := by
          rw [ha.2.1]
          have h3 : rs.length + r.size ≤ s0.md.rest.length + l0.length := by rw [hmd] at hr2; exact hr2
          have := HR.out
          omega
        have d7 := H.c7
        have fin : ∀ {o4 : Option Addr} {m4 k4 : Nat} {w4 : World}, wr.grownBy w4 z.ownBlock → Row w4 (.slice o4 m4 k4) (cc.rest ++ ls r) → Lies wr z (.slice o4 m4 k4) → w4.cell? ⟨p, 7, none⟩ = some z ∧ w4.frozen? ⟨p, 7, none⟩ = false ∧ Fin w (w4.setCell ⟨p, 7, none⟩ (.slice o4 m4 k4)) p Z most (run most s0 l0) := by
          intro o4 m4 k4 w4 g4 r4 l4
          have hp4 := H.st.same (g4.block p H.st.lt fun e => row_ne H.pz H.st e.symm rfl)
          obtain ⟨H2, G2⟩ := H.rowZ g4 r4 l4
          refine ⟨hp4.cell 7, hp4.frozen 7, ?_⟩
          obtain ⟨md, n, u⟩ := q
          simp only at hmd
          subst hmd
          rw [run_done] at he
          rw [← he]
          exact ⟨_, _, ⟨_, _, _, H2⟩, G.trans G2, st.n, st.m, st.u, ha.1, by show cc.rest ++ ls r = rs ++ ls r; rw [ha.2.1], ha.2.2⟩
        have hpz := H.pz
        clear ha hw st he ok hmd hu2 hr2 G H
        go_upto_region 19 with (at_builtin; refine wpl_app (s := r) hpz hrl rfl _ _ rfl rfl rfl ?_; intro o4 m4 k4 w4 r4 g4 l4; obtain ⟨d7b, f7b, F⟩ := fin g4 r4 l4; clear r4 g4 l4)
        generalize w4.setCell ⟨p, 7, none⟩ (.slice o4 m4 k4) = w5 at F ⊢
        have c8 := F.cell
        clear d8 d0 d7 d7b f7b
        go_wp2
        rw [Exit.noGoto_ret]
        go_ret
        exact ⟨rfl, F⟩
end Go.Proofs.YtdldoklkenhopaaGreatDoor.Ch
