/- Streams of frames, and how they are cut. -/
import Derived.Test.YthbfibnpfdegaaaDoorRAll
namespace Go.Proofs.YthbfibnpfdegaaaDoor

theorem frameB_size (t : ByteArray) : (frameB t).size = (frameL t.data.toList).length := by
  rw [← frameB_list]
  simp
theorem app_data (a b : ByteArray) : (a ++ b).data.toList = a.data.toList ++ b.data.toList := by simp [ByteArray.data_append]
theorem len_data (a : ByteArray) : a.data.toList.length = a.size := by simp
/-- A frame is read, whatever stands behind. -/
theorem frame_read (t r : ByteArray) (h1 : 1 ≤ t.size) (h2 : t.size ≤ 2000) :
    ∃ a k, readL (frameB t ++ r).data.toList = .ok a k ∧ (frameB t ++ r).extract a k = t ∧ (frameB t ++ r).extract (k + 4) (frameB t ++ r).size = r := by
  have hl := len_data t
  have hr := read_frame t.data.toList r.data.toList (by omega) (by omega)
  have hc := frame_cut t.data.toList r.data.toList
  rw [← frameB_list, ← app_data] at hr hc
  refine ⟨_, _, hr, ?_, ?_⟩
  · apply ba_list
    rw [ext_list]
    exact hc.1
  · apply ba_list
    rw [ext_list, List.take_of_length_le (by rw [len_data]; exact Nat.le_refl _)]
    exact hc.2
theorem all_frame {t r rr : ByteArray} {ts : List ByteArray} {e : Int} (h1 : 1 ≤ t.size) (h2 : t.size ≤ 2000) (h : AllR r ts rr e) : AllR (frameB t ++ r) (t :: ts) rr e := by
  obtain ⟨a, k, hr, e1, e2⟩ := frame_read t r h1 h2
  have := AllR.step hr (by rw [e2]; exact h)
  rwa [e1] at this
theorem all_empty : AllR { data := #[] } [] { data := #[] } 20 := .more rfl

/-- Frames, one behind another. -/
def streamB : List ByteArray → ByteArray
  | [] => { data := #[] }
  | t :: ts => frameB t ++ streamB ts
def allFit (ts : List ByteArray) : Prop := ∀ t ∈ ts, 1 ≤ t.size ∧ t.size ≤ 2000
theorem all_stream : ∀ ts : List ByteArray, allFit ts → AllR (streamB ts) ts { data := #[] } 20 := by
  intro ts
  induction ts with
  | nil => intro _; exact all_empty
  | cons t ts ih =>
    intro h
    exact all_frame (h t (List.mem_cons_self ..)).1 (h t (List.mem_cons_self ..)).2 (ih (fun u hu => h u (List.mem_cons_of_mem _ hu)))
theorem frame_short (t : ByteArray) (h1 : 1 ≤ t.size) (h2 : t.size ≤ 2000) (j : Nat) (hj : j < (frameB t).size) : readL ((frameB t).extract 0 j).data.toList = .more := by
  have hl := len_data t
  rw [frameB_size] at hj
  rw [ext_list, List.drop_zero, frameB_list]
  exact read_short _ (by omega) (by omega) j hj
theorem take_app (a b : ByteArray) (j : Nat) (h : j ≤ a.size) : (a ++ b).extract 0 j = a.extract 0 j := by
  apply ba_list
  rw [ext_list, ext_list, app_data, List.take_append_of_le_length (by rw [len_data]; exact h)]
theorem take_app' (a b : ByteArray) (j : Nat) (h : a.size ≤ j) : (a ++ b).extract 0 j = a ++ b.extract 0 (j - a.size) := by
  apply ba_list
  rw [ext_list, app_data, app_data, ext_list, List.drop_zero, List.drop_zero, List.take_append, List.take_of_length_le (by rw [len_data]; exact h), len_data]
theorem drop_app' (a b : ByteArray) (j : Nat) (h : a.size ≤ j) : (a ++ b).extract j (a ++ b).size = b.extract (j - a.size) b.size := by
  apply ba_list
  rw [ext_list, ext_list, List.take_of_length_le (by rw [len_data]; exact Nat.le_refl _), List.take_of_length_le (by rw [len_data]; exact Nat.le_refl _), app_data, List.drop_append, List.drop_eq_nil_of_le (by rw [len_data]; exact h), len_data, List.nil_append]
theorem cut_app (s : ByteArray) (j : Nat) : s.extract 0 j ++ s.extract j s.size = s := by
  apply ba_list
  have e : List.take s.size s.data.toList = s.data.toList := List.take_of_length_le (by rw [len_data]; exact Nat.le_refl _)
  rw [app_data, ext_list, ext_list, e, List.drop_zero, List.take_append_drop]
/-- However a stream is cut, the same frames are found. -/
theorem stream_cut : ∀ (ts : List ByteArray) (j : Nat), allFit ts → j ≤ (streamB ts).size →
    ∃ (i : Nat) (left : ByteArray), AllR ((streamB ts).extract 0 j) (ts.take i) left 20 ∧ AllR (left ++ (streamB ts).extract j (streamB ts).size) (ts.drop i) { data := #[] } 20 := by
  intro ts
  induction ts with
  | nil =>
    intro j _ hj
    have h0 : j = 0 := by
      have : (streamB []).size = 0 := rfl
      omega
    subst h0
    exact ⟨0, { data := #[] }, all_empty, all_empty⟩
  | cons t ts ih =>
    intro j h hj
    have ht := h t (List.mem_cons_self ..)
    have hts : allFit ts := fun u hu => h u (List.mem_cons_of_mem _ hu)
    by_cases hlt : j < (frameB t).size
    · refine ⟨0, (streamB (t :: ts)).extract 0 j, ?_, ?_⟩
      · refine .more ?_
        show readL ((frameB t ++ streamB ts).extract 0 j).data.toList = .more
        rw [take_app _ _ _ (by omega)]
        exact frame_short t ht.1 ht.2 j hlt
      · rw [cut_app]
        exact all_stream _ h
    · have hs : (streamB (t :: ts)).size = (frameB t).size + (streamB ts).size := by show (frameB t ++ streamB ts).size = _; rw [ByteArray.size_append]
      obtain ⟨i, left, h1, h2⟩ := ih (j - (frameB t).size) hts (by omega)
      refine ⟨i + 1, left, ?_, ?_⟩
      · show AllR ((frameB t ++ streamB ts).extract 0 j) (t :: ts.take i) left 20
        rw [take_app' _ _ _ (by omega)]
        exact all_frame ht.1 ht.2 h1
      · show AllR (left ++ (frameB t ++ streamB ts).extract j (frameB t ++ streamB ts).size) (ts.drop i) _ 20
        rw [drop_app' _ _ _ (by omega)]
        exact h2
/-- Streams part. -/
theorem stream_app (a b : List ByteArray) : streamB (a ++ b) = streamB a ++ streamB b := by
  induction a with
  | nil => apply ba_list; simp [streamB]
  | cons t a ih =>
    show frameB t ++ streamB (a ++ b) = frameB t ++ streamB a ++ streamB b
    rw [ih]
    apply ba_list
    simp
theorem frame_bytes (t : ByteArray) (h2 : t.size ≤ 2000) : (frameB t).size = t.size + (if 240 < t.size then 7 else 6) := by
  have hl := len_data t
  rw [frameB_size, frame_size _ (by omega), hl]
/-- A frame of whose content or check one byte is another one, from the end. -/
theorem frame_other (t : ByteArray) (h1 : 1 ≤ t.size) (h2 : t.size ≤ 2000) (k : Nat) (c : UInt8) (hk : k < (frameB t).size) (hk2 : (frameB t).size ≤ k + t.size + 4) (hc : (frameB t)[k] ≠ c) :
    readL ((frameB t).data.toList.set k c) = .check := by
  have hl := len_data t
  have hk' : k < (frameL t.data.toList).length := by rw [← frameB_size]; exact hk
  have hkc : (frameL t.data.toList)[k] = (frameB t)[k] := by
    have e : (frameB t)[k] = (frameB t).data.toList[k]'(by simpa using hk) := by simp; rfl
    rw [e]
    simp only [frameB_list]
  have hlen := frameL_len t.data.toList
  rw [frameB_size] at hk2
  rw [frameB_list]
  obtain ⟨i, hi⟩ : ∃ i, k = (putL t.data.toList.length).length + i + 1 := ⟨k - (putL t.data.toList.length).length - 1, by omega⟩
  subst hi
  have hi4 : i < (t.data.toList ++ fourL t.data.toList).length := by simp only [List.length_append, fourL_len]; omega
  have e1 : (frameL t.data.toList).set ((putL t.data.toList.length).length + i + 1) c = 167 :: (putL t.data.toList.length ++ (t.data.toList ++ fourL t.data.toList).set i c) := by
    unfold frameL
    rw [List.set_cons_succ, List.set_append_right _ _ (by omega), Nat.add_sub_cancel_left]
  have e2 : (t.data.toList ++ fourL t.data.toList).set i c = (t.data.toList ++ fourL t.data.toList).take i ++ c :: (t.data.toList ++ fourL t.data.toList).drop (i + 1) := by
    rw [List.set_eq_take_append_cons_drop, if_pos hi4]
  have e3 : t.data.toList ++ fourL t.data.toList = (t.data.toList ++ fourL t.data.toList).take i ++ (t.data.toList ++ fourL t.data.toList)[i] :: (t.data.toList ++ fourL t.data.toList).drop (i + 1) := by
    rw [List.getElem_cons_drop, List.take_append_drop]
  have e4 : (frameL t.data.toList)[(putL t.data.toList.length).length + i + 1] = (t.data.toList ++ fourL t.data.toList)[i] := by
    have e4' : (frameL t.data.toList)[(putL t.data.toList.length).length + i + 1]? = (t.data.toList ++ fourL t.data.toList)[i]? := by
      unfold frameL
      rw [List.getElem?_cons_succ, List.getElem?_append_right (by omega), Nat.add_sub_cancel_left]
    rw [List.getElem?_eq_getElem hk', List.getElem?_eq_getElem hi4] at e4'
    exact Option.some.inj e4'
  rw [e1, e2]
  refine read_other _ (by omega) (by omega) _ _ (t.data.toList ++ fourL t.data.toList)[i] c ?_ e3
  rw [← e4, hkc]
  exact hc
end Go.Proofs.YthbfibnpfdegaaaDoor
