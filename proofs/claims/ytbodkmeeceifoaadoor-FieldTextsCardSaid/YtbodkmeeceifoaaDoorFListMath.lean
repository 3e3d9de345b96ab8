/- Plain mathematics of lists of texts: their bytes, what these are read as, and what fewer of them are. -/
import Derived.Test.YtbodkmeeceifoaaDoorFLawsK
import Derived.Test.YtbodkmeeceifoaaDoorFList
namespace Go.Proofs.YtbodkmeeceifoaaDoor

/-- The bytes of texts; of a list. -/
def textsB (ts : List ByteArray) : ByteArray := ⟨(textsL ts).toArray⟩
def listB (ts : List ByteArray) : ByteArray := putB ts.length ++ textsB ts
theorem textsB_nil (a : ByteArray) : textsB [] ++ a = a := by apply ba_list; rw [app_list]; simp [textsB, textsL]
theorem textsB_cons (t : ByteArray) (ts : List ByteArray) (a : ByteArray) : textsB (t :: ts) ++ a = textB t ++ (textsB ts ++ a) := by
  apply ba_list
  unfold textB
  rw [app_list, app_list, app_list, app_list, putB_list]
  simp [textsB, textsL]
theorem fits_cons {t : ByteArray} {ts : List ByteArray} : fits (t :: ts) = true ↔ t.size ≤ 400 ∧ fits ts = true := by simp [fits]

theorem textB_size (t : ByteArray) : (textB t).size = (putL t.size).length + t.size := by unfold textB; rw [ByteArray.size_append, putB_size]
theorem text_read (t a : ByteArray) (h : t.size ≤ 400) : ∃ i k, textL (textB t ++ a).data.toList = .ok i k ∧ (textB t ++ a).extract i k = t ∧ (textB t ++ a).extract k (textB t ++ a).size = a := by
  refine ⟨_, _, text_put t a h, ?_, ?_⟩
  · have := ext_mid (putB t.size) t a _ (putB_size t.size).symm
    exact this
  · exact ext_behind (textB t) a _ (textB_size t).symm
theorem listS_back (a : ByteArray) : ∀ ts : List ByteArray, fits ts = true → listS ts.length (textsB ts ++ a) = .ok ts a := by
  intro ts
  induction ts with
  | nil => intro _; rw [textsB_nil]; rfl
  | cons t ts ih =>
    intro h
    obtain ⟨h1, h2⟩ := fits_cons.1 h
    rw [textsB_cons]
    obtain ⟨i, k, e1, e2, e3⟩ := text_read t (textsB ts ++ a) h1
    simp only [List.length_cons, listS, e1, e2, e3, ih h2]
theorem app_assoc (a b c : ByteArray) : a ++ b ++ c = a ++ (b ++ c) := by apply ba_list; simp
theorem list_back (ts : List ByteArray) (a : ByteArray) (hn : ts.length ≤ 100) (h : fits ts = true) : getLS (listB ts ++ a) = .ok ts a := by
  have e : listB ts ++ a = putB ts.length ++ (textsB ts ++ a) := by unfold listB; rw [app_assoc]
  have hg : getL (putB ts.length ++ (textsB ts ++ a)).data.toList = .ok ts.length (putL ts.length).length := by
    rw [app_list]
    exact get_put _ (by omega) _
  have hc : cntL 100 (putB ts.length ++ (textsB ts ++ a)).data.toList = .ok ts.length (putL ts.length).length := by
    unfold cntL
    rw [hg]
    dsimp only
    rw [if_neg (by omega)]
  rw [e]
  unfold getLS
  rw [hc]
  dsimp only
  rw [ext_behind _ _ _ (putB_size _).symm]
  exact listS_back a ts h

/-- What reading a text takes is that text's bytes. -/
theorem text_of (s : ByteArray) (i k : Nat) (h : textL s.data.toList = .ok i k) : (s.extract i k).size ≤ 400 ∧ textB (s.extract i k) ++ s.extract k s.size = s := by
  obtain ⟨v, hc, rfl, hle, hv, _⟩ := text_cases h
  obtain ⟨hg, _⟩ := cnt_ok hc
  obtain ⟨h1, h2, h3, h4, h5⟩ := put_get hg
  have hl : s.data.toList.length = s.size := by simp
  have hsz : (s.extract i (i + v)).size = v := by simp; omega
  refine ⟨by omega, ?_⟩
  apply ba_list
  unfold textB
  rw [app_list, app_list, hsz, putB_list, ext_list, ext_list, List.take_of_length_le (show s.data.toList.length ≤ s.size by omega)]
  have e : List.drop i (List.take (i + v) s.data.toList) ++ List.drop (i + v) s.data.toList = List.drop i s.data.toList := by
    rw [List.drop_take, Nat.add_sub_cancel_left, ← List.drop_drop, List.take_append_drop]
  rw [List.append_assoc, e]
  exact h5
theorem listS_of : ∀ (n : Nat) (s r : ByteArray) (ts : List ByteArray), listS n s = .ok ts r → ts.length = n ∧ fits ts = true ∧ textsB ts ++ r = s := by
  intro n
  induction n with
  | zero =>
    intro s r ts h
    simp [listS] at h
    obtain ⟨rfl, rfl⟩ := h
    exact ⟨rfl, rfl, textsB_nil _⟩
  | succ n ih =>
    intro s r ts h
    obtain ⟨a, k, ts', h1, h2, rfl⟩ := listS_succ h
    obtain ⟨e1, e2, e3⟩ := ih _ _ _ h2
    obtain ⟨e4, e5⟩ := text_of s a k h1
    refine ⟨by simp [e1], fits_cons.2 ⟨e4, e2⟩, ?_⟩
    rw [textsB_cons, e3]
    exact e5
theorem list_of (s r : ByteArray) (ts : List ByteArray) (h : getLS s = .ok ts r) : ts.length ≤ 100 ∧ fits ts = true ∧ listB ts ++ r = s := by
  unfold getLS at h
  split at h
  · cases h
  · cases h
  · rename_i n k hc
    obtain ⟨hg, hn⟩ := cnt_ok hc
    obtain ⟨e1, e2, e3⟩ := listS_of _ _ _ _ h
    refine ⟨by omega, e2, ?_⟩
    unfold listB
    rw [app_assoc, e3, e1]
    exact (put_of_get s n k hg).1

/-- Fewer bytes than a text's ask for more. -/
theorem text_short (t : ByteArray) (h : t.size ≤ 400) (l : List UInt8) (hp : l <+: (textB t).data.toList) (hlt : l.length < (textB t).size) : textL l = .more := by
  have e : (textB t).data.toList = putL t.size ++ t.data.toList := by unfold textB; rw [app_list, putB_list]
  rw [e] at hp
  rw [textB_size] at hlt
  have hl : t.data.toList.length = t.size := by simp
  by_cases h1 : l.length < (putL t.size).length
  · have e2 : l = (putL t.size).take l.length := by
      have := List.prefix_iff_eq_take.1 hp
      rw [List.take_append_of_le_length (by omega)] at this
      exact this
    have hg : getL l = .more := by rw [e2]; exact get_short _ _ h1
    simp [textL, cntL, hg]
  · obtain ⟨u, hu⟩ : ∃ u, l = putL t.size ++ u := by
      have := List.prefix_iff_eq_take.1 hp
      rw [List.take_append, List.take_of_length_le (by omega)] at this
      exact ⟨_, this⟩
    have hg : getL l = .ok t.size (putL t.size).length := by rw [hu]; exact get_put _ (by omega) _
    have hc : cntL 400 l = .ok t.size (putL t.size).length := by unfold cntL; rw [hg]; dsimp only; rw [if_neg (by omega)]
    unfold textL
    rw [hc]
    dsimp only
    rw [if_pos hlt]
theorem listS_short : ∀ (ts : List ByteArray) (s : ByteArray), fits ts = true → s.data.toList <+: (textsB ts).data.toList → s.size < (textsB ts).size → listS ts.length s = .more := by
  intro ts
  induction ts with
  | nil =>
    intro s _ _ h
    have h0 : (textsB []).size = 0 := rfl
    omega
  | cons t ts ih =>
    intro s hf hp hlt
    obtain ⟨h1, h2⟩ := fits_cons.1 hf
    have e : (textsB (t :: ts)).data.toList = (textB t).data.toList ++ (textsB ts).data.toList := by
      unfold textB
      rw [app_list, putB_list]
      simp [textsB, textsL]
    have hsz : (textsB (t :: ts)).size = (textB t).size + (textsB ts).size := by
      have := congrArg List.length e
      simpa using this
    have hls : s.data.toList.length = s.size := by simp
    have hlt' : (textB t).data.toList.length = (textB t).size := by simp
    rw [e] at hp
    by_cases hs : s.size < (textB t).size
    · have hp' : s.data.toList <+: (textB t).data.toList := by
        have := List.prefix_iff_eq_take.1 hp
        rw [List.take_append_of_le_length (by omega)] at this
        rw [this]
        exact List.take_prefix _ _
      have := text_short t h1 _ hp' (by omega)
      simp [listS, this]
    · obtain ⟨u, hu⟩ : ∃ u : List UInt8, s.data.toList = (textB t).data.toList ++ u := by
        have := List.prefix_iff_eq_take.1 hp
        rw [List.take_append, List.take_of_length_le (by omega)] at this
        exact ⟨_, this⟩
      have hpu : u <+: (textsB ts).data.toList := by
        rw [hu] at hp
        exact (List.prefix_append_right_inj _).1 hp
      have hsu : s = textB t ++ ⟨u.toArray⟩ := by
        apply ba_list
        rw [app_list, hu]
      have hul : (⟨u.toArray⟩ : ByteArray).size < (textsB ts).size := by
        have h3 := congrArg ByteArray.size hsu
        rw [ByteArray.size_append] at h3
        omega
      obtain ⟨i, k, e1, e2, e3⟩ := text_read t ⟨u.toArray⟩ h1
      rw [← hsu] at e1 e2 e3
      have := ih ⟨u.toArray⟩ h2 (by simpa using hpu) hul
      simp only [List.length_cons, listS, e1, e3, this]
theorem list_short (ts : List ByteArray) (hn : ts.length ≤ 100) (h : fits ts = true) (k : Nat) (hk : k < (listB ts).size) : getLS ((listB ts).extract 0 k) = .more := by
  have e : (listB ts).data.toList = putL ts.length ++ (textsB ts).data.toList := by unfold listB; rw [app_list, putB_list]
  have hsz : (listB ts).size = (putL ts.length).length + (textsB ts).size := by unfold listB; rw [ByteArray.size_append, putB_size]
  have el : ((listB ts).extract 0 k).data.toList = (putL ts.length ++ (textsB ts).data.toList).take k := by rw [ext_list, List.drop_zero, e]
  by_cases h1 : k < (putL ts.length).length
  · have hg : getL ((listB ts).extract 0 k).data.toList = .more := by
      rw [el, List.take_append_of_le_length (by omega)]
      exact get_short _ _ h1
    unfold getLS cntL
    rw [hg]
  · have el2 : ((listB ts).extract 0 k).data.toList = putL ts.length ++ (textsB ts).data.toList.take (k - (putL ts.length).length) := by
      rw [el, List.take_append, List.take_of_length_le (by omega)]
    have hg : getL ((listB ts).extract 0 k).data.toList = .ok ts.length (putL ts.length).length := by rw [el2]; exact get_put _ (by omega) _
    have hc : cntL 100 ((listB ts).extract 0 k).data.toList = .ok ts.length (putL ts.length).length := by unfold cntL; rw [hg]; dsimp only; rw [if_neg (by omega)]
    have hs : (listB ts).extract 0 k = putB ts.length ++ ⟨((textsB ts).data.toList.take (k - (putL ts.length).length)).toArray⟩ := by
      apply ba_list
      rw [el2, app_list, putB_list]
    unfold getLS
    rw [hc]
    dsimp only
    rw [hs, ext_behind _ _ _ (putB_size _).symm]
    refine listS_short ts _ h ?_ ?_
    · simpa using List.take_prefix _ _
    · have h3 := congrArg ByteArray.size hs
      rw [ByteArray.size_append, putB_size] at h3
      have h4 : ((listB ts).extract 0 k).size = k := by simp; omega
      omega

theorem listV_ok (ts : List ByteArray) (hn : ts.length ≤ 100) (h : fits ts = true) : listV ts = .tuple #[.string (listB ts), .int .i64 0] := by
  unfold listV putsV
  rw [if_neg (by omega), if_pos h]
  have e : (⟨(putL ts.length ++ textsL ts).toArray⟩ : ByteArray) = listB ts := by
    apply ba_list
    unfold listB
    rw [app_list, putB_list]
    simp [textsB]
  rw [e]
theorem listV_bad (ts : List ByteArray) (h : ¬ (ts.length ≤ 100 ∧ fits ts = true)) : listV ts = .tuple #[.string { data := #[] }, .int .i64 21] := by
  unfold listV putsV
  by_cases hn : 100 < ts.length
  · rw [if_pos hn]
  · rw [if_neg hn, if_neg (fun hf => h ⟨by omega, hf⟩)]
theorem listB_size (ts : List ByteArray) (hn : ts.length ≤ 100) (h : fits ts = true) : (listB ts).size ≤ 41000 := by
  have h1 := putL_len9 ts.length
  have h2 := textsL_len ts (fun t ht => by
    unfold fits at h
    simpa using List.all_eq_true.1 h t ht)
  have h3 : (textsB ts).size = (textsL ts).length := by simp [textsB, ByteArray.size]
  unfold listB
  rw [ByteArray.size_append, putB_size]
  omega
end Go.Proofs.YtbodkmeeceifoaaDoor
