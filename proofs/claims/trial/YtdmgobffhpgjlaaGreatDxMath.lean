/-
  What the calls of a log make of a disk: it stays a disk, a fault that is armed lies ahead, and how much it grows. No program text.
-/
import Derived.Test.YtdmgobffhpgjlaaGreatDxPlace
namespace Go.Proofs.YtdmgobffhpgjlaaGreat.Sl.Dg
open Go.RowKit Go.PlainAid Go.Proofs.YtdmgobffhpgjlaaGreat.Cr
open Go.Proofs.YtdmgobffhpgjlaaGreat.Pk (Bs Fi Dk kl usedF delF insF updF getF isName onL Up)
set_option linter.unusedVariables false
set_option maxRecDepth 20000
set_option linter.unusedSimpArgs false

section
variable {D : Dk}
theorem beg_zero {g : Bool} (h : (D.beg g).1 = 0) : g = true := by
  unfold Dk.beg at h
  split at h
  · simp at h
  · rename_i c
    simpa using c
theorem create_okd (ok : D.Ok) (n : Bs) : (D.create n).2.Ok := by
  obtain ⟨h1, h2, _⟩ := Pk.beg_L D (isName n)
  have hb := ok.beg (isName n)
  unfold Dk.create
  simp only
  split
  · exact hb
  · rename_i c
    split
    · exact hb
    · rename_i c2
      split
      · exact hb
      · rename_i c3
        refine hb.ins (beg_zero (by simpa using c)) (by simp) (fun x hx => ?_) (by simp; exact hb.used) (by omega)
        exact Pk.get_none (by simpa using c2) x hx
theorem append_okd (ok : D.Ok) (n s : Bs) : (D.append n s).2.Ok := by
  obtain ⟨h1, h2, _⟩ := Pk.beg_L D (isName n)
  have hb := ok.beg (isName n)
  unfold Dk.append
  simp only
  split
  · exact hb
  · split
    · exact hb
    · rename_i f hf
      split
      · exact hb
      · obtain ⟨m1, rfl⟩ := Pk.get_some hf
        have := hb.safe f m1
        exact hb.upd m1 rfl (by simp; omega) (by simp; omega)
theorem sync_okd (ok : D.Ok) (n : Bs) : (D.sync n).2.Ok := by
  have hb := ok.beg (isName n)
  unfold Dk.sync
  simp only
  split
  · exact hb
  · split
    · exact hb
    · rename_i f hf
      obtain ⟨m1, rfl⟩ := Pk.get_some hf
      have := hb.used
      exact hb.upd m1 rfl (by simp) (by simp; omega)
theorem delete_okd (ok : D.Ok) (n : Bs) : (D.delete n).2.Ok := by
  have hb := ok.beg (isName n)
  unfold Dk.delete
  simp only
  split
  · exact hb
  · split
    · exact hb
    · exact hb.del n
theorem read_okd (ok : D.Ok) (n : Bs) (a b : Int) : (D.read n a b).2.2.Ok := by
  have hb := ok.beg (isName n && decide (0 ≤ a) && decide (0 ≤ b))
  unfold Dk.read
  simp only
  split
  · exact hb
  · split
    · exact hb
    · split <;> exact hb
theorem disc_okd (ok : D.Ok) : (disc D).2.Ok := by
  unfold disc
  split
  · exact ok
  · exact delete_okd ok nN
theorem make_okd (ok : D.Ok) : (make D).2.Ok := by
  unfold make
  split
  · exact create_okd ok dN
  · exact ok
theorem fill_okd (ok : D.Ok) (s : Bs) : (fill D s).2.Ok := by
  unfold fill
  split
  · exact ok
  · exact append_okd ok nN s
theorem load_pw (pw : D.Pw) (ok : D.Ok) : (load D).2.2.Pw := by
  have p1 := disc_pw pw ok
  have k1 := disc_okd ok
  have p2 := make_pw p1 k1
  have k2 := make_okd k1
  have p3 := (Pk.steps_read p2 k2 dN 0 ((make (disc D).2).2.size dN)).1
  have k3 := read_okd k2 dN 0 ((make (disc D).2).2.size dN)
  have p4 := (Pk.steps_sync p3 k3 dN).1
  unfold load
  split
  · exact p1
  · split
    · exact p2
    · split
      · exact p3
      · split
        · exact p4
        · exact p4
theorem repl_pw (pw : D.Pw) (ok : D.Ok) (s : Bs) : (repl D s).2.Pw := by
  have p1 := disc_pw pw ok
  have k1 := disc_okd ok
  have p2 := (Pk.steps_create p1 k1 nN).1
  have k2 := create_okd k1 nN
  have p3 := fill_pw p2 k2 s
  have k3 := fill_okd k2 s
  have p4 := (Pk.steps_sync p3 k3 nN).1
  have k4 := sync_okd k3 nN
  have p5 := (Pk.steps_rename p4 k4 nN dN).1
  unfold repl
  split
  · exact p1
  · split
    · exact p2
    · split
      · exact p3
      · split
        · exact p4
        · exact p5

/-! ### how much lies on it -/
theorem create_used (n : Bs) : usedF (D.create n).2.L ≤ usedF D.L := by
  obtain ⟨h1, _⟩ := Pk.beg_L D (isName n)
  unfold Dk.create
  simp only
  split
  · rw [h1]; exact Nat.le_refl _
  · split
    · rw [h1]; exact Nat.le_refl _
    · split
      · rw [h1]; exact Nat.le_refl _
      · rw [h1, Pk.used_ins]; simp
theorem append_used (ok : D.Ok) (n s : Bs) : usedF (D.append n s).2.L ≤ usedF D.L + s.length := by
  obtain ⟨h1, _⟩ := Pk.beg_L D (isName n)
  unfold Dk.append
  simp only
  split
  · rw [h1]; omega
  · split
    · rw [h1]; omega
    · rename_i f hf
      split
      · rw [h1]; omega
      · obtain ⟨m1, rfl⟩ := Pk.get_some hf
        rw [h1] at m1 ⊢
        have := Pk.used_upd ok.up.ne m1 ⟨f.nm, f.bs ++ s, f.sf⟩
        simp only [List.length_append] at this ⊢
        omega
theorem sync_used (ok : D.Ok) (n : Bs) : usedF (D.sync n).2.L ≤ usedF D.L := by
  obtain ⟨h1, _⟩ := Pk.beg_L D (isName n)
  unfold Dk.sync
  simp only
  split
  · rw [h1]; exact Nat.le_refl _
  · split
    · rw [h1]; exact Nat.le_refl _
    · rename_i f hf
      obtain ⟨m1, rfl⟩ := Pk.get_some hf
      rw [h1] at m1 ⊢
      have := Pk.used_upd ok.up.ne m1 ⟨f.nm, f.bs, f.bs.length⟩
      simp only at this ⊢
      omega
theorem rename_used (ok : D.Ok) (n t : Bs) : usedF (D.rename n t).2.L ≤ usedF D.L := by
  obtain ⟨h1, _⟩ := Pk.beg_L D (isName n && isName t)
  unfold Dk.rename
  simp only
  split
  · rw [h1]; exact Nat.le_refl _
  · split
    · rw [h1]; exact Nat.le_refl _
    · rename_i f hf
      obtain ⟨m1, rfl⟩ := Pk.get_some hf
      rw [h1] at m1 ⊢
      have h2 := Pk.used_del ok.up.ne m1
      have h3 := used_filter (fun x => !(x.nm == t)) (delF f.nm D.L)
      rw [Pk.used_ins]
      simp only
      unfold delF at h2 h3 ⊢
      omega
theorem read_L (n : Bs) (a b : Int) : (D.read n a b).2.2.L = D.L := by
  obtain ⟨h1, _⟩ := Pk.beg_L D (isName n && decide (0 ≤ a) && decide (0 ≤ b))
  unfold Dk.read
  simp only
  split
  · exact h1
  · split
    · exact h1
    · split <;> exact h1
theorem fill_used (ok : D.Ok) (s : Bs) : usedF (fill D s).2.L ≤ usedF D.L + s.length := by
  unfold fill
  split
  · simp only; omega
  · exact append_used ok nN s
theorem load_left (ok : D.Ok) : usedF (load D).2.2.L ≤ usedF D.L := by
  have h1 := disc_used D
  have k1 := disc_okd ok
  have h2 := make_used (disc D).2
  have k2 := make_okd k1
  have h3 := read_L (D := (make (disc D).2).2) dN 0 ((make (disc D).2).2.size dN)
  have k3 := read_okd k2 dN 0 ((make (disc D).2).2.size dN)
  have h4 := sync_used k3 dN
  rw [h3] at h4
  unfold load
  split
  · exact h1
  · split
    · exact Nat.le_trans h2 h1
    · split
      · simp only; rw [h3]; exact Nat.le_trans h2 h1
      · split
        · simp only; exact Nat.le_trans h4 (Nat.le_trans h2 h1)
        · simp only; exact Nat.le_trans h4 (Nat.le_trans h2 h1)
theorem repl_used (ok : D.Ok) (s : Bs) : usedF (repl D s).2.L ≤ usedF D.L + s.length := by
  have h1 := disc_used D
  have k1 := disc_okd ok
  have h2 := create_used (D := (disc D).2) nN
  have k2 := create_okd k1 nN
  have h3 := fill_used k2 s
  have k3 := fill_okd k2 s
  have h4 := sync_used k3 nN
  have k4 := sync_okd k3 nN
  have h5 := rename_used k4 nN dN
  unfold repl
  split
  · omega
  · split
    · omega
    · split
      · omega
      · split <;> omega
theorem onL_used : ∀ (l : List Fi) (ks : List Int), usedF (onL ks l) ≤ usedF l
  | [], ks => by cases ks <;> simp [onL, usedF]
  | f :: r, ks => by
    by_cases c : f.sf = f.bs.length
    · rw [Pk.onL_same c]
      have := onL_used r ks
      simp only [usedF]
      omega
    · cases ks with
      | nil =>
        rw [Pk.onL_none c]
        have := onL_used r []
        simp only [usedF, List.length_take]
        omega
      | cons k ks =>
        rw [Pk.onL_some c]
        have := onL_used r ks
        simp only [usedF, List.length_take]
        omega
theorem on_used (ks : List Int) : usedF (D.on ks).L ≤ usedF D.L := by
  unfold Dk.on
  split
  · exact onL_used _ _
  · exact Nat.le_refl _
theorem flip_used (ok : D.Ok) (n : Bs) (pos : Int) (b : UInt8) : usedF (D.flip n pos b).2.L ≤ usedF D.L := by
  unfold Dk.flip
  split
  · exact Nat.le_refl _
  · rename_i f hf
    split
    · exact Nat.le_refl _
    · obtain ⟨m1, rfl⟩ := Pk.get_some hf
      have := Pk.used_upd ok.up.ne m1 ⟨f.nm, f.bs.set pos.toNat (f.bs.getD pos.toNat 0 ^^^ b), f.sf⟩
      simp only [List.length_set] at this ⊢
      omega

/-! ### behind k acts -/
structure Bd (D : Dk) (k : Nat) : Prop where
  pw : D.Pw
  ops : D.ops ≤ 10 * (k : Int) + 4
  used : usedF D.L ≤ 9000 * k
/-- within an act -/
structure Bm (D : Dk) (k : Nat) : Prop where
  pw : D.Pw
  ops : D.ops ≤ 10 * (k : Int) + 8
  used : usedF D.L ≤ 9000 * k + 500
structure Lb (L : Lg) (k : Nat) : Prop where
  n : 0 ≤ L.n ∧ L.n ≤ 170000 + 20 * (k : Int)
  b : 0 ≤ L.b ∧ L.b ≤ 1000000 + 9000 * (k : Int)
  s : 0 ≤ L.s ∧ L.s ≤ 170000 + 20 * (k : Int)
theorem Lb.fits {L : Lg} {k : Nat} (h : Lb L k) (hk : k ≤ 61) : L.Fits := by
  obtain ⟨h1, h2, h3⟩ := h
  exact ⟨by omega, by omega, by omega⟩
theorem Lb.up {L : Lg} {k : Nat} (h : Lb L k) : Lb L (k + 1) := by
  obtain ⟨h1, h2, h3⟩ := h
  exact ⟨by omega, by omega, by omega⟩
section
variable {k : Nat} {L : Lg}
theorem Bd.same (h : Bd D k) : Bm D k := ⟨h.pw, by have := h.ops; omega, by have := h.used; omega⟩
theorem Bm.next (h : Bm D k) : Bd D (k + 1) := ⟨h.pw, by have := h.ops; omega, by have := h.used; omega⟩
theorem bd_new (room : Int) : Bd (load (Dk.new room)).2.2 0 := by
  have h1 := load_ops (Dk.new room)
  have h2 := load_left (Pk.Dk.Ok.new room)
  refine ⟨load_pw (fun e => by simp [Dk.new] at e) (Pk.Dk.Ok.new room), ?_, ?_⟩
  · have : (Dk.new room).ops = 0 := rfl
    omega
  · have : usedF (Dk.new room).L = 0 := rfl
    omega
theorem bd_load (h : Bd D k) (ok : D.Ok) : Bm (load D).2.2 k := by
  have h1 := load_ops D
  have h2 := load_left ok
  have h3 := h.ops
  have h4 := h.used
  exact ⟨load_pw h.pw ok, by omega, by omega⟩
theorem bd_arm (h : Bd D k) (a b c : Int) : Bm (D.arm a b c) k := by
  have h1 := Pk.steps_arm D a b c
  have h3 := h.ops
  have h4 := h.used
  refine ⟨h1.1, by have := h1.2; omega, ?_⟩
  have : (D.arm a b c).L = D.L := Pk.arm_L D a b c
  rw [this]; omega
theorem bd_power (h : Bd D k) (ks : List Int) : Bm (D.offd.on ks) k := by
  have h1 := Pk.steps_off D
  have h2 := Pk.steps_on h1.1 ks
  have h3 := h.ops
  have h4 := h.used
  have h5 := on_used (D := D.offd) ks
  refine ⟨h2.1, by have := h1.2; have := h2.2; omega, ?_⟩
  have : D.offd.L = D.L := rfl
  rw [this] at h5; omega
theorem bd_flip (h : Bd D k) (ok : D.Ok) (n : Bs) (pos : Int) (b : UInt8) : Bm (D.flip n pos b).2 k := by
  have h1 := Pk.steps_flip h.pw n pos b
  have h2 := flip_used ok n pos b
  have h3 := h.ops
  have h4 := h.used
  exact ⟨h1.1, by have := h1.2; omega, by omega⟩
theorem bd_append (h : Bd D k) (ok : D.Ok) (n s : Bs) (hs : s.length ≤ 500) : Bm (D.append n s).2 k := by
  have h1 := Pk.steps_append h.pw ok n s
  have h2 := append_used ok n s
  have h3 := h.ops
  have h4 := h.used
  exact ⟨h1.1, by have := h1.2; omega, by omega⟩
theorem bd_add (h : Bm D k) (ok : D.Ok) (l : Lb L k) {x : Sp} : Bd (addL D L x).2.1 (k + 1) ∧ Lb (addL D L x).2.2 (k + 1) := by
  have h3 := h.ops
  have h4 := h.used
  obtain ⟨l1, l2, l3⟩ := l
  unfold addL
  split
  · exact ⟨h.next, Lb.up ⟨l1, l2, l3⟩⟩
  · split
    · exact ⟨h.next, Lb.up ⟨l1, l2, l3⟩⟩
    · rename_i c
      have hx : Can x := canB_iff.1 (by simpa using c)
      have hr := recB_len hx
      have s1 := Pk.steps_append h.pw ok dN (recB x)
      have s2 := append_used ok dN (recB x)
      have s3 := s1.2
      split
      · exact ⟨⟨s1.1, by simp only; omega, by simp only; omega⟩, ⟨by simp only; omega, by simp only; omega, by simp only; omega⟩⟩
      · exact ⟨⟨s1.1, by simp only; omega, by simp only; omega⟩, ⟨by simp only; omega, by simp only; omega, by simp only; omega⟩⟩
theorem bd_sync (h : Bm D k) (ok : D.Ok) (l : Lb L k) : Bd (syncL D L).2.1 (k + 1) ∧ Lb (syncL D L).2.2 (k + 1) := by
  have h3 := h.ops
  have h4 := h.used
  obtain ⟨l1, l2, l3⟩ := l
  have s1 := Pk.steps_sync h.pw ok dN
  have s2 := sync_used ok dN
  have s3 := s1.2
  unfold syncL
  split
  · exact ⟨h.next, Lb.up ⟨l1, l2, l3⟩⟩
  · split
    · exact ⟨h.next, Lb.up ⟨l1, l2, l3⟩⟩
    · split
      · exact ⟨⟨s1.1, by simp only; omega, by simp only; omega⟩, ⟨by simp only; omega, by simp only; omega, by simp only; omega⟩⟩
      · exact ⟨⟨s1.1, by simp only; omega, by simp only; omega⟩, ⟨by simp only; omega, by simp only; omega, by simp only; omega⟩⟩
theorem bd_rew (h : Bm D k) (ok : D.Ok) (l : Lb L k) {xs : List Sp} (hl : xs.length ≤ 20) : Bd (rewL D L xs).2.1 (k + 1) ∧ Lb (rewL D L xs).2.2 (k + 1) := by
  have h3 := h.ops
  have h4 := h.used
  obtain ⟨l1, l2, l3⟩ := l
  unfold rewL
  split
  · exact ⟨h.next, Lb.up ⟨l1, l2, l3⟩⟩
  · rename_i c
    have hc := allCan.1 (by simpa using c : xs.all canB = true)
    have hr := recs_len_le hc
    have hr2 := recsB_len xs
    have s1 := repl_pw h.pw ok (recsB xs)
    have s2 := repl_used ok (recsB xs)
    have s3 := repl_ops D (recsB xs)
    split
    · exact ⟨⟨s1, by simp only; omega, by simp only; omega⟩, ⟨by simp only; omega, by simp only; omega, by simp only; omega⟩⟩
    · exact ⟨⟨s1, by simp only; omega, by simp only; omega⟩, ⟨by simp only; omega, by simp only; omega, by simp only; omega⟩⟩
theorem lb_load {xs : List Sp} {n : Nat} (hu : usedF D.L ≤ 1000000) (h : Reads (nb (load D).1) xs n) (c : Bool) : Lb ⟨(xs.length : Int), (n : Int), (xs.length : Int), c⟩ k := by
  obtain ⟨h1, h2⟩ := reads_le h
  rw [nb_len] at h1
  have h3 := load_used D
  exact ⟨by simp only; omega, by simp only; omega, by simp only; omega⟩
end
end
end Go.Proofs.YtdmgobffhpgjlaaGreat.Sl.Dg
