/-
  Contracts of Flip and Lay.
-/
import Derived.Test.YtdmgobffhpgjlaaPkOps3
import Derived.Laws.BitsAllLaws
namespace Go.Proofs.Ytdmgobffhpgjlaa.Pk
open Go.RowKit Go.PlainAid Go.Maps
set_option linter.unusedVariables false
set_option maxRecDepth 20000
set_option linter.unusedSimpArgs false

theorem xor_bv (c b : UInt8) : Value.int .u8 (bits .xor .u8 (c.toNat : Int) (b.toNat : Int)) = bv (c ^^^ b) := by
  rw [u8_xor_nat _ _ c.toNat_lt b.toNat_lt, bv, UInt8.toNat_xor]
section
variable {w w' : World} {p m : Nat} {G : Gs} {D : Dk}
theorem lay_b {nm a : Bs} (hb : isName nm = false) : D.lay nm a = (1, D) := by
  unfold Dk.lay
  rw [if_pos hb]
theorem lay_nf {nm a : Bs} (hb : isName nm = true) (hg : getF nm D.L = none) (hc : 200 ≤ D.L.length ∨ D.room < (usedF D.L : Int) + (a.length : Int)) : D.lay nm a = (6, D) := by
  unfold Dk.lay
  rw [if_neg (by simp [hb]), hg]
  simp only
  rw [if_pos hc]
theorem lay_no {nm a : Bs} (hb : isName nm = true) (hg : getF nm D.L = none) (hc : ¬ (200 ≤ D.L.length ∨ D.room < (usedF D.L : Int) + (a.length : Int))) : D.lay nm a = (0, { D with L := insF ⟨nm, a, a.length⟩ (delF nm D.L) }) := by
  unfold Dk.lay
  rw [if_neg (by simp [hb]), hg]
  simp only
  rw [if_neg hc]
theorem lay_sf {nm a : Bs} (hb : isName nm = true) {f : Fi} (hg : getF nm D.L = some f) (hc : D.room < (usedF D.L : Int) + (a.length : Int) - (f.bs.length : Int)) : D.lay nm a = (6, D) := by
  unfold Dk.lay
  rw [if_neg (by simp [hb]), hg]
  simp only
  rw [if_pos hc]
theorem lay_so {nm a : Bs} (hb : isName nm = true) {f : Fi} (hg : getF nm D.L = some f) (hc : ¬ D.room < (usedF D.L : Int) + (a.length : Int) - (f.bs.length : Int)) : D.lay nm a = (0, { D with L := insF ⟨nm, a, a.length⟩ (delF nm D.L) }) := by
  unfold Dk.lay
  rw [if_neg (by simp [hb]), hg]
  simp only
  rw [if_neg hc]
/-- the file is put, whatever was under its name -/
theorem lay_fin (h : DiskAt w p m G D) {s t : ByteArray} (hb : isName (kl s) = true) (hu : (usedF (delF (kl s) D.L) : Int) + t.size ≤ D.room) (hc : (delF (kl s) D.L).length < 200) {w0 : World} (g : Goes w0 w (zone p m G D.L) (zone p m G D.L))
    {cap : Nat} {X : World} (hR : RowB X (.slice (some ⟨w.heap.size, 0, none⟩) t.size cap) (kl t)) (hB : Below w.heap.size w X) {w4 : World} {n : Nat}
    (hm : w4.ownsMap Try.prog 9 RF m n ((datum G D.L).put (.string (kl s)) (.lit (.int .i64 (X.heap.size : Int))))) (hg : (X.alloc (.cells #[.slice (some ⟨w.heap.size, 0, none⟩) t.size cap, .int .i64 (t.size : Int)] 75)).grownBy w4 (some m)) :
    Post w0 w4 p m G D { D with L := insF ⟨kl s, kl t, (kl t).length⟩ (delF (kl s) D.L) } := by
  have hk := kl_len t
  have hX : DiskAt X p m G D := h.kept fun b hb => hB.block b (h.lt hb)
  have ok : { D with L := insF ⟨kl s, kl t, (kl t).length⟩ (delF (kl s) D.L) }.Ok := (h.ok.del (kl s)).ins (D := { D with L := delF (kl s) D.L }) hb (Nat.le_refl _) (fun x hx => (mem_del.1 hx).2) (by simpa [hk] using hu) hc
  rw [← hk] at hg hR
  obtain ⟨k1, k2, k3, k4, k5, k6, k7⟩ := hX.putNew (f := ⟨kl s, kl t, (kl t).length⟩) hR (by
    intro b hb hz
    have e : w.heap.size = b := by simpa [Value.ownBlock] using hb
    have := h.lt hz
    omega) ok hm hg
  have q : Goes w0 w4 (zone p m G D.L) (zone p m G D.L) := (g.trans (Goes.of_below hB _)).trans ⟨k5, k6, k7, k4, fun b hb hz => k3 b hb fun e => hz (.inr (.inl e)), fun b hb => .inl hb⟩
  refine ⟨_, k1, q.os, q.tape, q.output, q.size, q.block, fun b hb => ?_⟩
  · rcases k2 b hb with c | c | c
    · exact .inl c
    · have e : w.heap.size = b := by simpa [Value.ownBlock] using c
      have := g.size
      exact .inr (by omega)
    · have := g.size
      have := hB.size
      exact .inr (by omega)
end
end Go.Proofs.Ytdmgobffhpgjlaa.Pk
