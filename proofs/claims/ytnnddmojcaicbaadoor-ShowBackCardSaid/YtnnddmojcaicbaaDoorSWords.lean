/- Joined: LineT, ShowT. -/
import Derived.Test.YtnnddmojcaicbaaDoorQWords
section
/- A name and numbers as a line of words. No Go in sight. -/
namespace Go.Proofs.YtnnddmojcaicbaaDoor
open Go.Lib (itoa)

/-- Words as a line. -/
def lineW : List (List UInt8) → List UInt8
  | [] => [10]
  | w :: r => w ++ (spW r ++ [10])
theorem lineW_snoc (w : List UInt8) (r : List (List UInt8)) : lineW (w :: r) = w ++ spW r ++ [10] := by simp [lineW]
/-- A name and numbers as a line. -/
def lineS (name : List UInt8) (l : List Int) : List UInt8 := lineW (if name = [] then l.map itoa else name :: l.map itoa)
/-- Words with a blank between. -/
def joinW : List (List UInt8) → List UInt8
  | [] => []
  | w :: r => w ++ spW r
theorem line_join (l : List (List UInt8)) : lineW l = joinW l ++ [10] := by
  cases l with
  | nil => rfl
  | cons w r => simp [lineW, joinW]
theorem joinW_snoc (l : List (List UInt8)) (t : List UInt8) : joinW (l ++ [t]) = joinW l ++ ((if l = [] then [] else [32]) ++ t) := by
  cases l with
  | nil => simp [joinW, spW]
  | cons w r => simp [joinW, spW_append, spW_cons, spW_nil]
def wordsS (name : List UInt8) (l : List Int) : List (List UInt8) := if name = [] then l.map itoa else name :: l.map itoa
theorem wordsS_snoc (name : List UInt8) (l : List Int) (n : Int) : wordsS name (l ++ [n]) = wordsS name l ++ [itoa n] := by
  unfold wordsS
  split <;> simp
theorem wordsS_nil {name : List UInt8} {l : List Int} : wordsS name l = [] ↔ name = [] ∧ l = [] := by
  unfold wordsS
  split
  · rename_i h
    simp [h]
  · rename_i h
    simp [h]
theorem itoa_ne (n : Int) : itoa n ≠ [] := by
  unfold Go.Lib.itoa
  split
  · simp
  · exact dec_ne _
theorem joinW_ne {name : List UInt8} {l : List Int} : joinW (wordsS name l) = [] ↔ wordsS name l = [] := by
  constructor
  · intro h
    unfold wordsS at h ⊢
    by_cases hn : name = []
    · rw [if_pos hn] at h ⊢
      cases l with
      | nil => rfl
      | cons n r =>
        simp [joinW] at h
        exact absurd h.1 (itoa_ne n)
    · rw [if_neg hn] at h
      simp [joinW] at h
      exact absurd h.1 hn
  · intro h
    rw [h]
    rfl
end Go.Proofs.YtnnddmojcaicbaaDoor
end
section
/- An instance's lines: their words are its words; read again they are it. No Go in sight. -/
namespace Go.Proofs.YtnnddmojcaicbaaDoor
open Go.Lib (itoa)

/-- An instance's lines. -/
def headI (x : Ins) : List (List (List UInt8)) := [[tWharfage, itoa x.en], [tTrucks, itoa x.tm, itoa x.tr], [tBikes, itoa x.bm, itoa x.br], [tSatellites, itoa x.sats.length]]
def linesI (x : Ins) : List (List (List UInt8)) :=
  headI x ++ (x.sats.map satW ++ ([[tCustomers, itoa x.cus.length]] ++ (x.cus.map cusW ++ ([[tCost]] ++ (x.cost.map rowW ++ ([[tTime]] ++ (x.time.map rowW ++ [[tEnd]])))))))
def showB (x : Ins) : List UInt8 := (linesI x).flatMap lineW
theorem flat_sats : ∀ (l : List (Int × Int)), (l.map satW).flatten = l.flatMap satW
  | [] => rfl
  | s :: l => by simp [flat_sats l]
theorem lines_words (x : Ins) : (linesI x).flatten = insW x := by
  have h1 : ∀ (l : List (Int × Int)), (l.map satW).flatten = l.flatMap satW := fun l => by rw [List.flatMap_def]
  have h2 : ∀ (l : List Pi), (l.map cusW).flatten = l.flatMap cusW := fun l => by rw [List.flatMap_def]
  have h3 : ∀ (l : List (List Int)), (l.map rowW).flatten = l.flatMap rowW := fun l => by rw [List.flatMap_def]
  simp only [linesI, headI, insW, midW, headW, List.flatten_append, h1, h2, h3]
  simp
theorem gap_line : Gap [10] := gap0
/-- The words of a line, and of what comes behind it. -/
theorem cut_row : ∀ (r : List (List UInt8)) (w rest : List UInt8) (i : Nat), (∀ t ∈ w :: r, t ≠ [] ∧ ∀ b ∈ t, sepB b = false) → ∃ j, (cutL (lineW (w :: r) ++ rest) i).map Prod.fst = w :: (r ++ (cutL rest j).map Prod.fst)
  | [], w, rest, i, h => by
    obtain ⟨h1, h2⟩ := h w (by simp)
    refine ⟨i + w.length + 1, ?_⟩
    rw [lineW, spW_nil, List.nil_append, List.append_assoc, cut_piece w [10] rest i h1 h2 ⟨_, _, rfl, rfl⟩, gap_line.over]
    simp
  | y :: r, w, rest, i, h => by
    obtain ⟨h1, h2⟩ := h w (by simp)
    obtain ⟨j, hj⟩ := cut_row r y rest (i + w.length + 1) (fun t ht => h t (by simp at ht ⊢; exact .inr ht))
    refine ⟨j, ?_⟩
    have e : lineW (w :: y :: r) ++ rest = w ++ ([32] ++ (lineW (y :: r) ++ rest)) := by simp [lineW, spW_cons]
    rw [e, cut_piece w [32] _ i h1 h2 ⟨_, _, rfl, rfl⟩, gap_blank.over]
    simp only [List.map_cons, List.cons_append]
    have e2 : i + w.length + ([32] : List UInt8).length = i + w.length + 1 := rfl
    rw [e2, hj]
theorem cut_lines : ∀ (L : List (List (List UInt8))) (i : Nat), (∀ l ∈ L, l ≠ [] ∧ ∀ t ∈ l, t ≠ [] ∧ ∀ b ∈ t, sepB b = false) → (cutL (L.flatMap lineW) i).map Prod.fst = L.flatten
  | [], i, _ => by simp [cutL_nil]
  | l :: L, i, h => by
    obtain ⟨h1, h2⟩ := h l (by simp)
    match l, h1, h2 with
    | w :: r, _, h2 =>
      rw [List.flatMap_cons]
      obtain ⟨j, hj⟩ := cut_row r w (L.flatMap lineW) i h2
      rw [hj, cut_lines L j (fun l hl => h l (by simp [hl]))]
      simp
theorem line_ne {x : Ins} (h : May x) : ∀ l ∈ linesI x, l ≠ [] := by
  intro l hl
  have hn : x.nodes ≠ 0 := by unfold Ins.nodes; omega
  have hr : ∀ {L : List (List Int)}, (∀ (k : Nat) (u : List Int), L[k]? = some u → u.length = x.nodes ∧ rowG k u) → ∀ l ∈ L.map rowW, l ≠ [] := fun hL l hl => by
    obtain ⟨u, hu, rfl⟩ := List.mem_map.1 hl
    obtain ⟨j, hj, e⟩ := List.getElem_of_mem hu
    have := (hL j u (by rw [List.getElem?_eq_getElem hj, e])).1
    intro e2
    have h3 := congrArg List.length e2
    simp [rowW] at h3
    subst h3
    simp at this
    omega
  simp only [linesI, headI, List.mem_append, List.mem_cons, List.not_mem_nil, or_false] at hl
  rcases hl with (rfl | rfl | rfl | rfl) | hl | rfl | hl | rfl | hl | rfl | hl | rfl
  · simp
  · simp
  · simp
  · simp
  · obtain ⟨s, _, rfl⟩ := List.mem_map.1 hl
    simp [satW]
  · simp
  · obtain ⟨s, _, rfl⟩ := List.mem_map.1 hl
    simp [cusW]
  · simp
  · exact hr h.cost l hl
  · simp
  · exact hr h.time l hl
  · simp
theorem line_fine {x : Ins} (h : May x) : ∀ l ∈ linesI x, ∀ t ∈ l, FineW t := fun l hl t ht =>
  fine_ins h t (by rw [← lines_words]; exact List.mem_flatten.2 ⟨l, hl, ht⟩)
theorem show_cut {x : Ins} (h : May x) : (cutL (showB x) 0).map Prod.fst = insW x := by
  rw [showB, cut_lines _ 0 (fun l hl => ⟨line_ne h l hl, fun t ht => ⟨(line_fine h l hl t ht).1.1, (line_fine h l hl t ht).1.2.1⟩⟩), lines_words]
theorem show_stands {x : Ins} (h : May x) : ∀ b ∈ showB x, badB b = false := by
  intro b hb
  obtain ⟨l, hl, hb⟩ := List.mem_flatMap.1 hb
  have hne := line_ne h l hl
  match l, hne, hl, hb with
  | w :: r, _, hl, hb =>
    rw [lineW] at hb
    rcases List.mem_append.1 hb with hb | hb
    · exact (line_fine h _ hl w (by simp)).1.2.2 b hb
    · rcases List.mem_append.1 hb with hb | hb
      · exact spW_stands r (fun t ht => (line_fine h _ hl t (by simp [ht])).1.2.2) b hb
      · simp at hb
        subst hb
        decide
theorem line_len : ∀ (l : List (List UInt8)), (∀ t ∈ l, t.length ≤ 10) → l ≠ [] → (lineW l).length ≤ 11 * l.length
  | [], _, h => absurd rfl h
  | w :: r, h, _ => by
    have h1 := h w (by simp)
    have h2 := spW_len r (fun t ht => h t (by simp [ht]))
    rw [lineW]
    simp only [List.length_append, List.length_cons, List.length_nil]
    omega
theorem lines_len : ∀ (L : List (List (List UInt8))), (∀ l ∈ L, l ≠ [] ∧ ∀ t ∈ l, t.length ≤ 10) → (L.flatMap lineW).length ≤ 11 * L.flatten.length
  | [], _ => by simp
  | l :: L, h => by
    have h1 := line_len l (h l (by simp)).2 (h l (by simp)).1
    have h2 := lines_len L (fun l hl => h l (by simp [hl]))
    simp only [List.flatMap_cons, List.flatten_cons, List.length_append]
    omega
theorem show_len {x : Ins} (h : May x) : (showB x).length ≤ 90000 := by
  have h1 := lines_len (linesI x) (fun l hl => ⟨line_ne h l hl, fun t ht => (line_fine h l hl t ht).2⟩)
  rw [lines_words] at h1
  have h2 := ins_len h (nodes_61 h)
  have h3 := h.ns
  have h4 := h.nc
  unfold showB
  omega
/-- What is told is read as it. -/
theorem show_read {x : Ins} (h : May x) : textI (showB x) = x ∧ textAt (showB x) = 0 ∧ textC (showB x) = 0 := read_words h (show_stands h) (show_cut h)
/-- Two that may be have the same text just if they are the same. -/
theorem show_apart {x y : Ins} (hx : May x) (hy : May y) (h : showB x = showB y) : x = y := by
  rw [← (show_read hx).1, ← (show_read hy).1, h]
end Go.Proofs.YtnnddmojcaicbaaDoor
end
