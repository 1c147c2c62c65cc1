/-
  Digests, their digits and their texts, in plain terms.
-/
import Derived.Test.YtmnkhcefdpcheaaDoorStLeaf
namespace Go.Proofs.YtmnkhcefdpcheaaDoor.St
open Go.RowKit Go.PlainAid
set_option linter.unusedVariables false

/-- a digest's bytes -/
structure Dig (d : List Nat) : Prop where
  len : d.length = 32
  lt : ∀ x ∈ d, x < 256
def zeros : List Nat := List.replicate 32 0
theorem zeros_dig : Dig zeros := ⟨by simp [zeros], by simp [zeros]⟩
def u8s (d : List Nat) : List UInt8 := d.map UInt8.ofNat
def hexD (d : List Nat) : ByteArray := ⟨(Hx.hexL (u8s d)).toArray⟩
def txt (h : ByteArray) (d : List Nat) : ByteArray := h ++ hexD d
theorem u8s_len (d : List Nat) : (u8s d).length = d.length := by simp [u8s]
theorem hexD_size {d : List Nat} (h : Dig d) : (hexD d).size = 64 := by
  unfold hexD; rw [Hx.size_mk, Hx.hexL_len, u8s_len, h.len]
theorem u8s_back {d : List Nat} (h : Dig d) : (u8s d).map UInt8.toNat = d := by
  unfold u8s
  rw [List.map_map]
  conv => rhs; rw [← List.map_id d]
  apply List.map_congr_left
  intro x hx
  have := h.lt x hx
  simp only [Function.comp, UInt8.toNat_ofNat', id]
  omega
theorem nats_back (l : List UInt8) : u8s (l.map UInt8.toNat) = l := by
  unfold u8s
  rw [List.map_map]
  conv => rhs; rw [← List.map_id l]
  apply List.map_congr_left
  intro x hx
  simp
theorem hexL_inj {a b : List UInt8} (h : Hx.hexL a = Hx.hexL b) : a = b := by
  have e := Hx.unTo_back a
  rw [h] at e
  rw [← e, Hx.unTo_back b]
theorem hexD_inj {a b : List Nat} (ha : Dig a) (hb : Dig b) (h : hexD a = hexD b) : a = b := by
  unfold hexD at h
  have h1 : (Hx.hexL (u8s a)).toArray = (Hx.hexL (u8s b)).toArray := congrArg ByteArray.data h
  have h2 := hexL_inj (by simpa using h1)
  rw [← u8s_back ha, ← u8s_back hb, h2]
theorem ba_ext {a b : ByteArray} (h : a.data.toList = b.data.toList) : a = b := by
  cases a; cases b; simp at h; rw [h]
theorem toList_data (a : ByteArray) : a.toList = a.data.toList := by
  exact ByteArray.toList_eq a
theorem txt_data (h : ByteArray) (d : List Nat) : (txt h d).data.toList = h.data.toList ++ Hx.hexL (u8s d) := by
  unfold txt hexD; simp
theorem txt_inj {h : ByteArray} {a b : List Nat} (ha : Dig a) (hb : Dig b) (e : txt h a = txt h b) : a = b := by
  have e1 : (txt h a).data.toList = (txt h b).data.toList := by rw [e]
  rw [txt_data, txt_data] at e1
  have e2 := hexL_inj (List.append_cancel_left e1)
  rw [← u8s_back ha, ← u8s_back hb, e2]
theorem txt_size {h : ByteArray} {d : List Nat} (hd : Dig d) : (txt h d).size = h.size + 64 := by
  unfold txt; rw [ByteArray.size_append, hexD_size hd]
theorem pre_txt (h : ByteArray) {d : List Nat} (hd : Dig d) : pre (txt h d) h = true := by
  unfold pre
  rw [txt_size hd]
  have : ((txt h d).extract 0 h.size) = h := by
    apply ba_ext
    rw [ByteArray.data_extract, Array.toList_extract, txt_data]
    simp
  rw [this]
  simp
theorem cut_txt (h : ByteArray) {d : List Nat} (hd : Dig d) : cut (txt h d) h = hexD d := by
  unfold cut
  rw [if_pos (pre_txt h hd)]
  apply ba_ext
  rw [ByteArray.data_extract, Array.toList_extract, txt_data]
  have : (txt h d).size - h.size = (Hx.hexL (u8s d)).length := by rw [txt_size hd, Hx.hexL_len, u8s_len, hd.len]; omega
  simp [this, hexD]
theorem pre_eq {s h : ByteArray} (hp : pre s h = true) : s = h ++ s.extract h.size s.size := by
  have hl := pre_le hp
  unfold pre at hp
  simp only [Bool.and_eq_true, decide_eq_true_eq, beq_iff_eq] at hp
  have e : (s.extract 0 h.size).data.toList = h.data.toList := by rw [← toList_data, ← toList_data]; exact hp.2
  apply ba_ext
  rw [ByteArray.data_append, Array.toList_append, ← e, ByteArray.data_extract, ByteArray.data_extract, Array.toList_extract, Array.toList_extract]
  rw [List.extract_eq_take_drop, List.extract_eq_take_drop, List.drop_zero, List.take_of_length_le (l := s.data.toList.drop h.size) (by simp), Nat.sub_zero, List.take_append_drop]
theorem hexD_form (d : List Nat) : Hx.UnForm (hexD d) := Hx.hexL_form _
theorem hexD_un {d : List Nat} (h : Dig d) : Hx.unTo (hexD d) ((hexD d).size / 2) = u8s d := Hx.unTo_back _
/-- what is read would have been written so -/
theorem form_txt {s h : ByteArray} (hp : pre s h = true) (hz : (cut s h).size = 64) (hf : Hx.UnForm (cut s h)) : ∃ d, Dig d ∧ s = txt h d := by
  have ec : cut s h = s.extract h.size s.size := by unfold cut; rw [if_pos hp]
  refine ⟨(Hx.unTo (cut s h) ((cut s h).size / 2)).map UInt8.toNat, ⟨by rw [List.length_map, Hx.unTo_len, hz], ?_⟩, ?_⟩
  · intro x hx
    simp only [List.mem_map] at hx
    obtain ⟨c, _, rfl⟩ := hx
    exact c.toNat_lt
  · unfold txt hexD
    rw [nats_back, Hx.hexL_back _ hf, Hx.mk_data, ec]
    exact pre_eq hp
/-- whether a text is that of a digest -/
def Is (h s : ByteArray) : Prop := ∃ d, Dig d ∧ s = txt h d
end Go.Proofs.YtmnkhcefdpcheaaDoor.St
