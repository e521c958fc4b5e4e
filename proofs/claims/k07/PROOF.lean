import PyProof.Rows.All
import Wide.All
import OpenK.AllK
import Wide.FinOn
import HandS.ForMost
import HandS.Style
import HandS.TupAny
import HandS.Strs
import HandS.IsInst
import HandS.StrMore
import HandS.Walk
import KE.GoesEnum
import KE.GoesMore
import HandS.Star
import HandS.Conv
import HandS.ClsMeth
import HandS.MakeKw
import PyProof.ReprLen
import HandS.Set
import HandS.SetTxt0
import PyProof.Rows.SortShellAny
import HandS.TupSets
import KE.KSortTupG
import PyProof.TupleOfSeq
import HandS.ExcIs
import HandS.ExcField
import HandS.ExcValue
import HandS.ExcInit
import KE.KIsAll
import HandS.Lambda
import HandS.WordsExc
import HandS.More
import HandS.OwnEq
import PyProof.InstNe
import HandS.Deep
import HandS.EndTab
import KE.KNestM
import PySem.Challenge.RW_whatleaves_k07_whole_each_kind_is_made
section
set_option autoImplicit true
namespace K2
open PySem

abbrev Row := Str × List Str
def barredL : List String := ["pass", "raise", "from", "none", "again", "return", "returns", "break", "call", "handling", "else", "either", "or", "loop", "try", "except", "as", "finally", "with", "quiet", "class", "def", "error", "vacant"]
def barred : List Str := barredL.map Str.ofString
def resd : List Str := barred.take 22
def sErr : Str := Str.ofString "error"
def sVac : Str := Str.ofString "vacant"
def codes (x : Str) : List Nat := x.cps.toList
def txt (l : List Nat) : Str := ⟨l.toArray⟩
theorem codes_txt (l : List Nat) : codes (txt l) = l := by simp [codes, txt]
theorem txt_codes (x : Str) : txt (codes x) = x := by cases x; simp [codes, txt]
theorem codes_inj {x y : Str} (h : codes x = codes y) : x = y := by rw [← txt_codes x, ← txt_codes y, h]

/-- a text of small letters -/
def Low (l : List Nat) : Prop := ∀ c ∈ l, 97 ≤ c ∧ c ≤ 122
/-- a word of the document -/
structure VW (x : Str) : Prop where
  low : Low (codes x)
  ne : codes x ≠ []
  le : (codes x).length ≤ 8
  nr : x ∉ resd
theorem vw_err : VW sErr := ⟨by unfold Low; decide +kernel, by decide +kernel, by decide +kernel, by decide +kernel⟩
theorem vw_vac : VW sVac := ⟨by unfold Low; decide +kernel, by decide +kernel, by decide +kernel, by decide +kernel⟩
theorem err_ne_vac : sErr ≠ sVac := by decide +kernel
theorem mem_resd {x : Str} (h : x ∈ resd) : x ∈ barred := List.mem_of_mem_take h
theorem err_barred : sErr ∈ barred := by decide +kernel
theorem vac_barred : sVac ∈ barred := by decide +kernel

/-! ### words -/
def wordAt (base : List Nat) (spot : Nat) (sign : Nat) : List Nat := base.take spot ++ [sign] ++ base.drop spot
def signAt (first hop k : Nat) : Nat := 97 + (first + hop * k) % 26
def finalAt (base : List Nat) (spot first hop k : Nat) : List Nat :=
  let w := wordAt base spot (signAt first hop k)
  w ++ (if 26 ≤ k then [113] else if txt w ∈ barred then [122] else [])
theorem barred_end : ∀ b ∈ barred, ∀ c, (codes b).getLast? = some c → c ≠ 113 ∧ c ≠ 122 := by
  have h : ∀ b ∈ barred, (codes b).getLast? ≠ some 113 ∧ (codes b).getLast? ≠ some 122 := by decide +kernel
  intro b hb c hc
  have := h b hb
  refine ⟨fun e => this.1 (by rw [hc, e]), fun e => this.2 (by rw [hc, e])⟩
theorem low_wordAt (hb : Low base) (h1 : 97 ≤ sign) (h2 : sign ≤ 122) : Low (wordAt base spot sign) := by
  intro c hc
  unfold wordAt at hc
  rcases List.mem_append.mp hc with hc | hc
  · rcases List.mem_append.mp hc with hc | hc
    · exact hb c (List.mem_of_mem_take hc)
    · have : c = sign := by simpa using hc
      omega
  · exact hb c (List.mem_of_mem_drop hc)
theorem len_wordAt (base : List Nat) (spot sign : Nat) : (wordAt base spot sign).length = base.length + 1 := by
  unfold wordAt
  simp only [List.length_append, List.length_take, List.length_drop, List.length_singleton]
  omega
theorem sign_lo (f h k : Nat) : 97 ≤ signAt f h k ∧ signAt f h k ≤ 122 := by
  unfold signAt; omega
theorem sign_ne {f hop i j : Nat} (hh : hop ∈ [1, 3, 5, 7, 9, 11]) (h1 : i < j) (h2 : j < i + 26) : signAt f hop i ≠ signAt f hop j := by
  unfold signAt
  simp only [List.mem_cons, List.not_mem_nil, or_false] at hh
  rcases hh with rfl | rfl | rfl | rfl | rfl | rfl <;> omega
theorem word_ne {base : List Nat} {spot s t : Nat} (h : s ≠ t) : wordAt base spot s ≠ wordAt base spot t := by
  unfold wordAt
  intro e
  rw [List.append_assoc, List.append_assoc] at e
  have := List.append_cancel_left e
  have h2 : s = t := by simpa using (List.cons.inj this).1
  exact h h2
theorem vw_final {base : List Nat} (hb : Low base) (hl : base.length ≤ 6) (spot f hop k : Nat) : VW (txt (finalAt base spot f hop k)) ∧ txt (finalAt base spot f hop k) ∉ barred := by
  have hw := low_wordAt (spot := spot) hb (sign_lo f hop k).1 (sign_lo f hop k).2
  have hlen := len_wordAt base spot (signAt f hop k)
  have nb : txt (finalAt base spot f hop k) ∉ barred := by
    intro hm
    have he := barred_end _ hm
    rw [codes_txt] at he
    by_cases h1 : 26 ≤ k
    · unfold finalAt at he
      simp only [h1, if_true] at he
      exact (he 113 (by simp)).1 rfl
    · by_cases h2 : txt (wordAt base spot (signAt f hop k)) ∈ barred
      · unfold finalAt at he
        simp only [h1, if_false, h2, if_true] at he
        exact (he 122 (by simp)).2 rfl
      · unfold finalAt at hm
        simp only [h1, if_false, h2, if_false, List.append_nil] at hm
  refine ⟨⟨?_, ?_, ?_, fun h => nb (mem_resd h)⟩, nb⟩
  · rw [codes_txt]
    unfold finalAt
    intro c hc
    rcases List.mem_append.mp hc with hc | hc
    · exact hw c hc
    · split at hc
      · have : c = 113 := by simpa using hc
        omega
      · split at hc
        · have : c = 122 := by simpa using hc
          omega
        · cases hc
  · rw [codes_txt]
    intro e
    have : (finalAt base spot f hop k).length = 0 := by rw [e]; rfl
    unfold finalAt at this
    rw [List.length_append, hlen] at this
    omega
  · rw [codes_txt]
    unfold finalAt
    rw [List.length_append, hlen]
    split
    · show base.length + 1 + 1 ≤ 8; omega
    · split
      · show base.length + 1 + 1 ≤ 8; omega
      · show base.length + 1 + 0 ≤ 8; omega
theorem final_ne {base : List Nat} {spot f hop i j : Nat} (hh : hop ∈ [1, 3, 5, 7, 9, 11]) (h1 : i < j) (hj : j < 32) : finalAt base spot f hop i ≠ finalAt base spot f hop j := by
  have li := len_wordAt base spot (signAt f hop i)
  have lj := len_wordAt base spot (signAt f hop j)
  intro e
  have key : ∀ {w1 w2 : List Nat} {a b : Nat}, w1 ++ [a] = w2 ++ [b] → w1 = w2 ∧ a = b := by
    intro w1 w2 a b h
    have := List.append_inj' h rfl
    exact ⟨this.1, by simpa using this.2⟩
  unfold finalAt at e
  by_cases c1 : 26 ≤ i
  · have c2 : 26 ≤ j := by omega
    simp only [c1, c2, if_true] at e
    exact word_ne (sign_ne hh h1 (by omega)) (key e).1
  · by_cases c2 : 26 ≤ j
    · simp only [c1, if_false, c2, if_true] at e
      by_cases c3 : txt (wordAt base spot (signAt f hop i)) ∈ barred
      · simp only [c3, if_true] at e
        exact absurd (key e).2 (by decide)
      · simp only [c3, if_false, List.append_nil] at e
        have := congrArg List.length e
        rw [List.length_append, li, lj] at this
        simp at this
    · have hs : wordAt base spot (signAt f hop i) ≠ wordAt base spot (signAt f hop j) := word_ne (sign_ne hh h1 (by omega))
      simp only [c1, if_false, c2] at e
      by_cases c3 : txt (wordAt base spot (signAt f hop i)) ∈ barred
      · by_cases c4 : txt (wordAt base spot (signAt f hop j)) ∈ barred
        · simp only [c3, c4, if_true] at e
          exact hs (key e).1
        · simp only [c3, c4, if_true, if_false, List.append_nil] at e
          have := congrArg List.length e
          rw [List.length_append, li, lj] at this
          simp at this
      · by_cases c4 : txt (wordAt base spot (signAt f hop j)) ∈ barred
        · simp only [c3, c4, if_true, if_false, List.append_nil] at e
          have := congrArg List.length e
          rw [List.length_append, li, lj] at this
          simp at this
        · simp only [c3, c4, if_false, List.append_nil] at e
          exact hs e
def finals (base : List Nat) (spot f hop n : Nat) : List Str := (List.range n).map fun k => txt (finalAt base spot f hop k)
/-- what words are for the law: so many unlike words, none of them error or vacant -/
structure Words (ws : List Str) : Prop where
  vw : ∀ x ∈ ws, VW x
  nb : ∀ x ∈ ws, x ∉ barred
  nd : ws.Nodup
theorem nodup_of_inj {α : Type} {f : Nat → α} {n : Nat} (h : ∀ i j, i < j → j < n → f i ≠ f j) : ((List.range n).map f).Nodup := by
  unfold List.Nodup
  rw [List.pairwise_map]
  refine List.Pairwise.imp_of_mem ?_ (List.pairwise_lt_range (n := n))
  intro a b _ hb hab
  exact h a b hab (List.mem_range.mp hb)
theorem words_finals {base : List Nat} (hb : Low base) (hl : base.length ≤ 6) {hop : Nat} (hh : hop ∈ [1, 3, 5, 7, 9, 11]) {n : Nat} (hn : n ≤ 32) (spot f : Nat) : Words (finals base spot f hop n) := by
  refine ⟨fun x hx => ?_, fun x hx => ?_, ?_⟩
  · obtain ⟨k, _, rfl⟩ := List.mem_map.mp hx
    exact (vw_final hb hl spot f hop k).1
  · obtain ⟨k, _, rfl⟩ := List.mem_map.mp hx
    exact (vw_final hb hl spot f hop k).2
  · refine nodup_of_inj fun i j h1 h2 e => final_ne (base := base) (spot := spot) (f := f) hh h1 (by omega) ?_
    have := congrArg codes e
    rwa [codes_txt, codes_txt] at this
theorem barred_two : ∀ b ∈ barred, 2 ≤ (codes b).length ∧ (codes b)[0]? ≠ (codes b)[1]? := by decide +kernel
def reps (c n : Nat) : List Str := (List.range n).map fun k => txt (List.replicate (k + 1) c)
theorem words_reps {c : Nat} (h1 : 97 ≤ c) (h2 : c ≤ 122) {n : Nat} (hn : n ≤ 8) : Words (reps c n) := by
  have nb : ∀ k, txt (List.replicate (k + 1) c) ∉ barred := by
    intro k hm
    have := barred_two _ hm
    rw [codes_txt] at this
    rw [List.length_replicate] at this
    apply this.2
    rw [List.getElem?_replicate, List.getElem?_replicate, if_pos (by omega), if_pos (by omega)]
  refine ⟨fun x hx => ?_, fun x hx => ?_, ?_⟩
  · obtain ⟨k, hk, rfl⟩ := List.mem_map.mp hx
    have hk := List.mem_range.mp hk
    refine ⟨?_, ?_, ?_, fun h => nb k (mem_resd h)⟩
    · rw [codes_txt]
      intro d hd
      have := List.eq_of_mem_replicate hd
      omega
    · rw [codes_txt]
      intro e
      have := congrArg List.length e
      rw [List.length_replicate] at this
      simp at this
    · rw [codes_txt, List.length_replicate]
      omega
  · obtain ⟨k, hk, rfl⟩ := List.mem_map.mp hx
    exact nb k
  · refine nodup_of_inj fun i j h1 h2 e => ?_
    have := congrArg (fun x => (codes x).length) e
    simp only [codes_txt, List.length_replicate] at this
    omega
theorem Words.rev {ws : List Str} (h : Words ws) : Words ws.reverse := ⟨fun x hx => h.vw x (List.mem_reverse.mp hx), fun x hx => h.nb x (List.mem_reverse.mp hx), by
  have := h.nd
  unfold List.Nodup at *
  rw [List.pairwise_reverse]
  exact this.imp fun h e => h e.symm⟩
end K2
end
section
set_option autoImplicit true
namespace K2
open PySem

def base0 : List Str := [sErr, sVac]
structure RowOk (known : List Str) (r : Row) : Prop where
  vw : VW r.1
  new : r.1 ∉ known
  ne : r.2 ≠ []
  nd : r.2.Nodup
  sub : ∀ b ∈ r.2, b ∈ known
def knownAt (rs : List Row) (i : Nat) : List Str := base0 ++ (rs.take i).map (·.1)
def Good (rs : List Row) : Prop := ∀ (i : Nat) (r : Row), rs[i]? = some r → RowOk (knownAt rs i) r
theorem good_nil : Good [] := fun i r h => by simp at h
theorem good_snoc {rs : List Row} {r : Row} (g : Good rs) (h : RowOk (base0 ++ rs.map (·.1)) r) : Good (rs ++ [r]) := by
  intro i q hq
  by_cases hi : i < rs.length
  · rw [List.getElem?_append_left hi] at hq
    have := g i q hq
    unfold knownAt at *
    rw [List.take_append_of_le_length (by omega)]
    exact this
  · have hi2 : i = rs.length := by
      have := (List.getElem?_eq_some_iff.mp hq).1
      rw [List.length_append, List.length_singleton] at this
      omega
    subst hi2
    rw [List.getElem?_append_right (Nat.le_refl _), Nat.sub_self] at hq
    simp at hq
    subst hq
    unfold knownAt
    rw [List.take_append_of_le_length (Nat.le_refl _), List.take_length]
    exact h
theorem vw_base0 : ∀ x ∈ base0, VW x := by
  intro x hx
  unfold base0 at hx
  rcases List.mem_cons.mp hx with rfl | hx
  · exact vw_err
  · have : x = sVac := by simpa using hx
    subst this
    exact vw_vac
theorem Good.vw_known {rs : List Row} (g : Good rs) (i : Nat) : ∀ x ∈ knownAt rs i, VW x := by
  intro x hx
  rcases List.mem_append.mp hx with hx | hx
  · exact vw_base0 x hx
  · obtain ⟨r, hr, rfl⟩ := List.mem_map.mp hx
    obtain ⟨j, hj⟩ := List.getElem?_of_mem (List.mem_of_mem_take hr)
    exact (g j r hj).vw
theorem knownAt_len {rs : List Row} {i : Nat} (h : i ≤ rs.length) : (knownAt rs i).length = i + 2 := by
  unfold knownAt base0
  simp [List.length_take]
  omega
theorem knownAt_succ {rs : List Row} {i : Nat} {r : Row} (h : rs[i]? = some r) : knownAt rs (i + 1) = knownAt rs i ++ [r.1] := by
  unfold knownAt
  rw [List.take_add_one, h]
  simp
theorem base0_nd : base0.Nodup := by
  unfold base0
  simp [err_ne_vac]
theorem Good.nodup {rs : List Row} (g : Good rs) : ∀ i, i ≤ rs.length → (knownAt rs i).Nodup
  | 0, _ => by simpa [knownAt] using base0_nd
  | i + 1, h => by
    have hi : rs[i]? = some rs[i] := List.getElem?_eq_getElem (by omega)
    rw [knownAt_succ hi]
    refine List.nodup_append.mpr ⟨g.nodup i (by omega), by simp, ?_⟩
    intro a ha b hb e
    have : b = rs[i].1 := by simpa using hb
    subst this
    subst e
    exact (g i _ hi).new ha
/-- the rows of words, with any bases among those known -/
def namesOf (rs : List Row) : List Str := rs.map (·.1)
structure Sub1 (r q : Row) : Prop where
  nm : q.1 = r.1
  sl : q.2.Sublist r.2
  ne : q.2 ≠ []
theorem good_sub {rs qs : List Row} (g : Good rs) (hl : qs.length = rs.length) (h : ∀ (i : Nat) (r q : Row), rs[i]? = some r → qs[i]? = some q → Sub1 r q) : Good qs := by
  have en : ∀ i, (qs.take i).map (·.1) = (rs.take i).map (·.1) := by
    intro i
    apply List.ext_getElem?
    intro j
    rw [List.getElem?_map, List.getElem?_map, List.getElem?_take, List.getElem?_take]
    split
    · by_cases hj : j < rs.length
      · have h1 : rs[j]? = some rs[j] := List.getElem?_eq_getElem hj
        have h2 : qs[j]? = some qs[j] := List.getElem?_eq_getElem (by omega)
        rw [h1, h2]
        simp [(h j _ _ h1 h2).nm]
      · rw [List.getElem?_eq_none (by omega), List.getElem?_eq_none (by omega)]
    · rfl
  intro i q hq
  have hi : i < rs.length := by
    have := (List.getElem?_eq_some_iff.mp hq).1
    omega
  have h1 : rs[i]? = some rs[i] := List.getElem?_eq_getElem hi
  have k := h i _ _ h1 hq
  have R := g i _ h1
  unfold knownAt at *
  rw [en i]
  refine ⟨by rw [k.nm]; exact R.vw, by rw [k.nm]; exact R.new, k.ne, R.nd.sublist k.sl, fun b hb => R.sub b (k.sl.subset hb)⟩

/-! ### what is within what -/
abbrev Tb := List (Str × List Str)
def look : Tb → Str → List Str
  | [], _ => []
  | (k, u) :: t, x => if k = x then u else look t x
def keys (t : Tb) : List Str := t.map (·.1)
def insK (ks : List Str) (x : Str) : List Str := if x ∈ ks then ks else ks ++ [x]
def mergeU (m us : List Str) : List Str := m ++ us.filter fun u => decide (u ∉ m)
def lineL (t : Tb) (m : List Str) (bs : List Str) : List Str := bs.foldl (fun m b => mergeU m (look t b)) m
def lineOf (t : Tb) (r : Row) : List Str := lineL t [r.1] r.2
def t0 : Tb := [(sErr, [sErr]), (sVac, [sVac, sErr])]
def stepT (t : Tb) (r : Row) : Tb := t ++ [(r.1, lineOf t r)]
def ups (rs : List Row) : Tb := rs.foldl stepT t0
theorem ups_succ {rs : List Row} {i : Nat} {r : Row} (h : rs[i]? = some r) : ups (rs.take (i + 1)) = stepT (ups (rs.take i)) r := by
  unfold ups
  rw [List.take_add_one, h]
  simp
theorem ups_snoc (rs : List Row) (r : Row) : ups (rs ++ [r]) = stepT (ups rs) r := by unfold ups; simp
theorem keys_ups (rs : List Row) : keys (ups rs) = base0 ++ rs.map (·.1) := by
  have h : ∀ (rs : List Row) (t : Tb), keys (rs.foldl stepT t) = keys t ++ rs.map (·.1) := by
    intro rs
    induction rs with
    | nil => intro t; simp
    | cons r rs ih =>
      intro t
      rw [List.foldl_cons, ih]
      simp [keys, stepT]
  exact h rs t0
theorem keys_ups_take (rs : List Row) (i : Nat) : keys (ups (rs.take i)) = knownAt rs i := keys_ups _
theorem foldl_insK : ∀ (us ks : List Str), us.Nodup → us.foldl insK ks = mergeU ks us
  | [], ks, _ => by simp [mergeU]
  | u :: us, ks, h => by
    have h1 := List.nodup_cons.mp h
    rw [List.foldl_cons, foldl_insK us _ h1.2]
    unfold insK mergeU
    by_cases hu : u ∈ ks
    · rw [if_pos hu, List.filter_cons]
      simp [hu]
    · rw [if_neg hu, List.filter_cons]
      simp only [hu, not_false_eq_true, decide_true, if_true]
      rw [List.append_assoc, List.singleton_append]
      congr 2
      apply List.filter_congr
      intro x hx
      have : x ≠ u := fun e => h1.1 (e ▸ hx)
      simp [this]
structure LineOk (pre : List Str) (x : Str) (us : List Str) : Prop where
  nd : us.Nodup
  self : x ∈ us
  err : sErr ∈ us
  sub : ∀ u ∈ us, u = x ∨ u ∈ pre
def TOk (t : Tb) : Prop := ∀ a x us b, t = a ++ (x, us) :: b → LineOk (keys a) x us ∧ x ∉ keys a
theorem tok_t0 : TOk t0 := by
  intro a x us b h
  unfold t0 at h
  rcases a with _ | ⟨p, a⟩
  · simp at h
    obtain ⟨⟨rfl, rfl⟩, _⟩ := h
    exact ⟨⟨by simp, by simp, by simp, by simp⟩, by simp [keys]⟩
  · rcases a with _ | ⟨q, a⟩
    · simp at h
      obtain ⟨rfl, ⟨rfl, rfl⟩, _⟩ := h
      refine ⟨⟨by simp [err_ne_vac.symm], by simp, by simp, ?_⟩, ?_⟩
      · intro u hu
        simp [keys] at *
        exact hu
      · simp [keys, err_ne_vac.symm]
    · simp at h
theorem look_mem : ∀ {t : Tb} {x : Str}, x ∈ keys t → ∃ a b, t = a ++ (x, look t x) :: b
  | [], x, h => by simp [keys] at h
  | (k, u) :: t, x, h => by
    by_cases e : k = x
    · subst e
      refine ⟨[], t, ?_⟩
      simp [look]
    · have h2 : x ∈ keys t := by
        unfold keys at *
        rcases List.mem_cons.mp h with e2 | h2
        · exact absurd e2.symm e
        · exact h2
      obtain ⟨a, b, hab⟩ := look_mem h2
      refine ⟨(k, u) :: a, b, ?_⟩
      simp only [look, if_neg e, List.cons_append]
      rw [← hab]
theorem keys_mid {a b : Tb} {x : Str} {us : List Str} : keys (a ++ (x, us) :: b) = keys a ++ x :: keys b := by simp [keys]
theorem TOk.line {t : Tb} (T : TOk t) {x : Str} (h : x ∈ keys t) : (look t x).Nodup ∧ x ∈ look t x ∧ sErr ∈ look t x ∧ ∀ u ∈ look t x, u ∈ keys t := by
  obtain ⟨a, b, e⟩ := look_mem h
  obtain ⟨L, _⟩ := T a x (look t x) b e
  refine ⟨L.nd, L.self, L.err, fun u hu => ?_⟩
  rw [e, keys_mid]
  rcases L.sub u hu with rfl | hu
  · simp
  · exact List.mem_append_left _ hu
theorem TOk.nodup : ∀ {t : Tb}, TOk t → (keys t).Nodup := by
  intro t T
  have h : ∀ (b a : Tb), t = a ++ b → (keys a).Nodup → (keys t).Nodup := by
    intro b
    induction b with
    | nil => intro a e h; rw [e, List.append_nil]; exact h
    | cons p b ih =>
      intro a e h
      obtain ⟨x, us⟩ := p
      refine ih (a ++ [(x, us)]) (by rw [e]; simp) ?_
      have := (T a x us b e).2
      unfold keys at *
      rw [List.map_append]
      refine List.nodup_append.mpr ⟨h, by simp, ?_⟩
      intro c hc d hd q
      have : d = x := by simpa using hd
      subst this
      subst q
      contradiction
  exact h t [] (by simp) (by simp [keys])
theorem split_uniq {a b c d : Tb} {x : Str} {us vs : List Str} (h : a ++ (x, us) :: b = c ++ (x, vs) :: d) (ha : x ∉ keys a) (hc : x ∉ keys c) : a = c := by
  induction a generalizing c with
  | nil =>
    rcases c with _ | ⟨q, c⟩
    · rfl
    · simp at h
      exfalso
      apply hc
      rw [← h.1]
      simp [keys]
  | cons p a ih =>
    rcases c with _ | ⟨q, c⟩
    · simp at h
      exfalso
      apply ha
      rw [h.1]
      simp [keys]
    · simp only [List.cons_append, List.cons.injEq] at h
      rw [h.1, ih h.2 (fun m => ha (by unfold keys at *; exact List.mem_cons_of_mem _ m)) (fun m => hc (by unfold keys at *; exact List.mem_cons_of_mem _ m))]
theorem TOk.back {t : Tb} (T : TOk t) {x y : Str} (hx : x ∈ keys t) (hy : y ∈ look t x) (ne : y ≠ x) : x ∉ look t y := by
  intro hxy
  obtain ⟨a, b, e⟩ := look_mem hx
  obtain ⟨L, hn⟩ := T a x _ b e
  have hya : y ∈ keys a := (L.sub y hy).resolve_left ne
  have hyt : y ∈ keys t := by rw [e, keys_mid]; exact List.mem_append_left _ hya
  obtain ⟨c, d, e2⟩ := look_mem hyt
  obtain ⟨M, hm⟩ := T c y _ d e2
  have hxc : x ∈ keys c := (M.sub x hxy).resolve_left ne.symm
  -- y stands in a, so c is a beginning of a
  obtain ⟨a1, a2, e3⟩ := look_mem hya
  have e4 : t = a1 ++ (y, look a y) :: (a2 ++ (x, look t x) :: b) := by
    rw [List.append_cons, ← List.append_assoc] 
    conv => lhs; rw [e, e3]
    simp
  have hm2 : y ∉ keys a1 := (T a1 y _ _ e4).2
  have : c = a1 := split_uniq (e2.symm.trans e4) hm hm2
  subst this
  apply hn
  rw [e3, keys_mid]
  exact List.mem_append_left _ hxc
theorem mergeU_ok {t : Tb} {m us : List Str} (hm : m.Nodup) (hu : us.Nodup) : (mergeU m us).Nodup := by
  unfold mergeU
  refine List.nodup_append.mpr ⟨hm, hu.filter _, ?_⟩
  intro a ha b hb e
  subst e
  have := (List.mem_filter.mp hb).2
  simp at this
  exact this ha
theorem lineL_ok {t : Tb} (T : TOk t) {x : Str} : ∀ (bs m : List Str), (∀ b ∈ bs, b ∈ keys t) → m.Nodup → (∀ u ∈ m, u = x ∨ u ∈ keys t) →
    (lineL t m bs).Nodup ∧ (∀ u ∈ lineL t m bs, u = x ∨ u ∈ keys t) ∧ (∀ u ∈ m, u ∈ lineL t m bs) ∧ (bs ≠ [] → sErr ∈ lineL t m bs)
  | [], m, _, h1, h2 => ⟨h1, h2, fun u hu => hu, fun h => absurd rfl h⟩
  | b :: bs, m, hb, h1, h2 => by
    have L := T.line (hb b List.mem_cons_self)
    have n1 := mergeU_ok (t := t) h1 L.1
    have s1 : ∀ u ∈ mergeU m (look t b), u = x ∨ u ∈ keys t := by
      intro u hu
      rcases List.mem_append.mp hu with hu | hu
      · exact h2 u hu
      · exact .inr (L.2.2.2 u (List.mem_filter.mp hu).1)
    obtain ⟨q1, q2, q3, q4⟩ := lineL_ok T bs (mergeU m (look t b)) (fun c hc => hb c (List.mem_cons_of_mem _ hc)) n1 s1
    refine ⟨q1, q2, fun u hu => q3 u (List.mem_append_left _ hu), fun _ => ?_⟩
    apply q3
    by_cases he : sErr ∈ m
    · exact List.mem_append_left _ he
    · exact List.mem_append_right _ (List.mem_filter.mpr ⟨L.2.2.1, by simpa using he⟩)
theorem tok_step {t : Tb} (T : TOk t) {r : Row} (R : RowOk (keys t) r) : TOk (stepT t r) := by
  intro a x us b e
  unfold stepT at e
  rcases List.eq_nil_or_concat b with rfl | ⟨b', z, rfl⟩
  · have := List.append_inj' e rfl
    obtain ⟨rfl, e2⟩ := this
    simp at e2
    obtain ⟨rfl, rfl⟩ := e2
    have := lineL_ok T (x := r.1) r.2 [r.1] R.sub (by simp) (by simp)
    exact ⟨⟨this.1, this.2.2.1 _ (by simp), this.2.2.2 R.ne, this.2.1⟩, R.new⟩
  · rw [List.concat_eq_append, ← List.cons_append, ← List.append_assoc] at e
    have := List.append_inj' e rfl
    exact T a x us b' this.1
theorem tok_ups {rs : List Row} (g : Good rs) : ∀ i, i ≤ rs.length → TOk (ups (rs.take i))
  | 0, _ => by simpa [ups] using tok_t0
  | i + 1, h => by
    have hi : rs[i]? = some rs[i] := List.getElem?_eq_getElem (by omega)
    rw [ups_succ hi]
    refine tok_step (tok_ups g i (by omega)) ?_
    rw [keys_ups_take]
    exact g i _ hi
end K2
end
section
set_option Elab.async false
set_option maxRecDepth 100000
set_option linter.all false
namespace K2
open PySem L2
/-! ### the text by places -/
def top (i : Nat) : Stmt := PySem.Challenge.pw_whatleaves_k07_whole_each_kind_is_made.main.body.getD i (.Pass ⟨0, 0, 0, 0⟩)
abbrev sDraw : Stmt := top 29
abbrev sPick : Stmt := top 30
/-! ### what the built-in names hold -/
structure Bi (mg : Str → Option Value) : Prop where
  len : mg "len" = none
  int : mg "int" = none
  abs : mg "abs" = none
  range : mg "range" = none
  list : mg "list" = none
  tuple : mg "tuple" = none
  enumerate : mg "enumerate" = none
  isinstance : mg "isinstance" = none
  str : mg "str" = none
  set : mg "set" = none
  all : mg "all" = none
  repr : mg "repr" = none
/-! ### the pen -/
def penO (c : Addr) (a l : Int) : HO := .lst [.ref c, .int a, .int l]
structure Pen (H : Hp) (p c : Addr) (ns : List Int) (n : Nat) : Prop where
  pen : ∃ a l : Int, H p = some (penO c a l) ∧ 0 ≤ a ∧ a ≤ n ∧ 0 ≤ l
  cells : H c = some (.lst (ns.map V.int))
  small : ns.length ≤ 63
def Keep (p : Addr) (H H' : Hp) : Prop := ∀ b o, H b = some o → b ≠ p → H' b = some o
theorem Keep.refl (p : Addr) (H : Hp) : Keep p H H := fun _ _ h _ => h
theorem Keep.trans {p : Addr} {H H1 H2 : Hp} (a : Keep p H H1) (b : Keep p H1 H2) : Keep p H H2 := fun c o h n => b c o (a c o h n) n
theorem Keep.new {p q : Addr} {H H1 : Hp} {o : HO} (k : Keep p H H1) (h : H q = none) : Keep p H (upd H1 q o) := fun b u hb n => by
  rw [upd_ne (ne_of_none hb h)]
  exact k b u hb n
theorem Keep.at {p : Addr} {H H1 : Hp} {o : HO} (k : Keep p H H1) : Keep p H (upd H1 p o) := fun b u hb n => by
  rw [upd_ne n]
  exact k b u hb n
theorem Pen.mono {H : Hp} {p c : Addr} {ns : List Int} {n m : Nat} (h : Pen H p c ns n) (e : n ≤ m) : Pen H p c ns m := by
  obtain ⟨a, l, h1, h2, h3, h4⟩ := h.pen
  exact ⟨⟨a, l, h1, h2, by omega, h4⟩, h.cells, h.small⟩
theorem Pen.ne {H : Hp} {p c : Addr} {ns : List Int} {n : Nat} (h : Pen H p c ns n) : c ≠ p := by
  obtain ⟨a, l, h1, _⟩ := h.pen
  refine ne_of h.cells h1 ?_
  unfold penO
  intro e
  injection e with e
  cases ns with
  | nil => simp at e
  | cons n ns => simp at e
/-- the pen behind a new object -/
theorem Pen.new {H : Hp} {p c q : Addr} {ns : List Int} {n : Nat} {o : HO} (h : Pen H p c ns n) (hq : H q = none) : Pen (upd H q o) p c ns n := by
  obtain ⟨a, l, h1, h2, h3, h4⟩ := h.pen
  exact ⟨⟨a, l, by rw [upd_ne (ne_of_none h1 hq)]; exact h1, h2, h3, h4⟩, by rw [upd_ne (ne_of_none h.cells hq)]; exact h.cells, h.small⟩
/-- the pen behind a store elsewhere -/
theorem Pen.upd' {H : Hp} {p c q : Addr} {ns : List Int} {n : Nat} {o : HO} (h : Pen H p c ns n) (h1 : p ≠ q) (h2 : c ≠ q) : Pen (upd H q o) p c ns n := by
  obtain ⟨a, l, g1, g2, g3, g4⟩ := h.pen
  exact ⟨⟨a, l, by rw [upd_ne h1]; exact g1, g2, g3, g4⟩, by rw [upd_ne h2]; exact h.cells, h.small⟩
theorem Pen.set {H : Hp} {p c : Addr} {ns : List Int} {n m : Nat} (h : Pen H p c ns n) {a l : Int} (h1 : 0 ≤ a) (h2 : a ≤ m) (h3 : 0 ≤ l) : Pen (upd H p (penO c a l)) p c ns m :=
  ⟨⟨a, l, upd_same, h1, h2, h3⟩, by rw [upd_ne h.ne]; exact h.cells, h.small⟩

def spDraw : Sp := fun vs H Q _ => ∃ (p c : Addr) (ns : List Int) (n : Nat) (m : Int), vs = [.ref p, .int m] ∧ Pen H p c ns n ∧ n ≤ 100000 ∧ 0 < m ∧ m < 1073741824 ∧
  ∀ (v : Int) (H' : Hp), 0 ≤ v → v < m → Keep p H H' → Pen H' p c ns (n + 1) → Q (.int v) H'

section
variable {P : Program} {w : World} {K : PySem.W.Frag} {mg : Str → Option Value} {base : Heap}
abbrev nDraw : List Str := ["_law_pen_here", "_law_many", "_law_digit", "_law_at", "_law_cell", "_law_great", "_law_mixed_here"]
theorem scDraw : FnScope nDraw ["_law_pen_here", "_law_many"] (defScope sDraw) := ⟨rfl, rfl, rfl, by decide +kernel, rfl, by decide +kernel, by decide +kernel⟩
theorem fmod_lo {a m : Int} (h : 0 < m) : 0 ≤ a.fmod m := Int.fmod_nonneg_of_pos a h
theorem fmod_hi {a m : Int} (h : 0 < m) : a.fmod m < m := Int.fmod_lt_of_pos a h
theorem fdiv_nn {a m : Int} (ha : 0 ≤ a) (h : 0 < m) : 0 ≤ a.fdiv m := Int.fdiv_nonneg ha (Int.le_of_lt h)
theorem mul_bnd {x y X Y : Int} (h1 : 0 ≤ x) (h2 : x ≤ X) (h3 : 0 ≤ y) (h4 : y ≤ Y) : 0 ≤ x * y ∧ x * y ≤ X * Y :=
  ⟨Int.mul_nonneg h1 h3, Int.mul_le_mul h2 h4 h3 (Int.le_trans h1 h2)⟩
theorem ints_dp (K : PySem.W.Frag) (H : Hp) : ∀ ns : List Int, DpAll K H (ns.map V.int) (ns.map PyData.int)
  | [] => .nil
  | n :: ns => .cons (.int n) (ints_dp K H ns)
theorem canLay_ints : ∀ ns : List Int, PyData.canLayAll0 (ns.map PyData.int) = true
  | [] => rfl
  | n :: ns => by
    show (true && PyData.canLayAll0 (ns.map PyData.int)) = true
    rw [canLay_ints ns]
    rfl
theorem depth_ints : ∀ ns : List Int, PyData.depthAll (ns.map PyData.int) = 0
  | [] => rfl
  | n :: ns => by
    show max 0 (PyData.depthAll (ns.map PyData.int)) = 0
    rw [depth_ints ns]
    rfl
theorem shaped_ints (ns : List Int) : SeqAt.shaped (.list (ns.map PyData.int)) = true := by
  show (PyData.canLayAll0 (ns.map PyData.int) && decide (PyData.depthAll (ns.map PyData.int) + 1 ≤ 64)) = true
  rw [canLay_ints, depth_ints]
  rfl
theorem eqv_nil (ns : List Int) : (!PyData.eqv (.list (ns.map PyData.int)) (.list [])) = !ns.isEmpty := by
  cases ns <;> rfl
theorem len_pos_lt {n : Nat} {a : Int} (h : 0 < n) : 0 ≤ a.fmod (n : Int) ∧ a.fmod (n : Int) < n := ⟨fmod_lo (by omega), fmod_hi (by omega)⟩
theorem ok_draw {f : Addr} {fd : FuncData} (F : Fun K "_law_draw" "_law_draw" sDraw f fd) (T : Bi mg) : FnOk P w K mg base CX0 1 f fd ["_law_pen_here", "_law_many"] spDraw := by
  refine F.ok scDraw (fun vs H Q E h => ?_) (fun cdv A outer s H vs Q E hr h => ?_)
  · obtain ⟨p, c, ns, n, m, rfl, _⟩ := h
    rfl
  · obtain ⟨p, c, ns, n, m, rfl, hP, hn, m0, m1, k⟩ := h
    have hmne : m ≠ 0 := by omega
    have hmab : m.natAbs < 1073741824 := by omega
    obtain ⟨a, l, hp, a0, an, l0⟩ := hP.pen
    unfold penO at hp
    refine ⟨_, (pss_cons (ps_if (pt_cmpR op_gt (pe_ix ix_list (pv 0) pe_int (fun _ _ => rfl)) pe_int (nomark _))
      (pss_cons (ps_set (i := 2) scDraw.nd rfl (Or.inl rfl) (pe_op op_modN (pe_callTy call_int1 (by rfl) T.int (by decide +kernel) (pa_cons (pe_ix ix_list (pv 0) pe_int (fun _ _ => rfl)) pa_nil)) (pv 1)))
        (pss_cons (ps_asg (pe_op op_fdivN (pe_ix ix_list (pv 0) pe_int (fun _ _ => rfl)) (pv 1)) (pg_sub (pv 0) pe_int set_list))
        (pss_one (ps_ret (pv 2)))))
      pss_nil)
      (pss_cons (ps_set (i := 3) scDraw.nd rfl (Or.inl rfl) (pe_ix ix_list (pv 0) pe_int (fun _ _ => rfl)))
      (pss_cons (ps_asg (pe_op op_add (pv 3) pe_int) (pg_sub (pv 0) pe_int set_list))
      (pss_cons (ps_set (i := 4) scDraw.nd rfl (Or.inl rfl) (pe_op op_add (pe_op op_mul pe_int (pv 3)) pe_int))
      (pss_cons (ps_if (pt_cmpR (op_neD hr.units) (pe_ix ix_list (pv 0) pe_int (fun _ _ => rfl)) (pe_lst pa_nil) (nomark _))
      (pss_one (ps_set (i := 4) scDraw.nd rfl (Or.inl rfl) (pe_ix ix_list (pe_ix ix_list (pv 0) pe_int (fun _ _ => rfl)) (pe_op op_modN (pe_callTy call_int1 (by rfl) T.int (by decide +kernel) (pa_cons (pv 3) pa_nil)) (pe_callB call_len_seq (by rfl) T.len PySem.boot_len (pa_cons (pe_ix ix_list (pv 0) pe_int (fun _ _ => rfl)) pa_nil))) (fun _ _ => rfl))))
      pss_nil)
      (pss_cons (ps_if (PW.pt (pw_and (pt_cmpR op_lt (pv 3) (pe_callB call_len_seq (by rfl) T.len PySem.boot_len (pa_cons (pe_ix ix_list (pv 0) pe_int (fun _ _ => rfl)) pa_nil)) (nomark _)) (pw_and1 (pt_cmpR op_ge (pe_callB call_abs (by rfl) T.abs (by decide +kernel) (pa_cons (pv 4) pa_nil)) (pe_op op_pow pe_int pe_int) (nomark _)))))
      (pss_cons (ps_set (i := 5) scDraw.nd rfl (Or.inl rfl) (pe_op op_add (pe_op op_mul pe_int (pe_op op_sub (pe_callB call_abs (by rfl) T.abs (by decide +kernel) (pa_cons (pv 4) pa_nil)) (pe_op op_pow pe_int pe_int))) (pe_callTy call_int1 (by rfl) T.int (by decide +kernel) (pa_cons (pe_cmpR op_lt (pv 4) pe_int (nomark _)) pa_nil))))
        (pss_cons (ps_asg (pe_op op_fdivN (pv 5) (pv 1)) (pg_sub (pv 0) pe_int set_list))
        (pss_one (ps_ret (pe_op op_modN (pe_callTy call_int1 (by rfl) T.int (by decide +kernel) (pa_cons (pv 5) pa_nil)) (pv 1))))))
      pss_nil)
      (pss_cons (ps_set (i := 6) scDraw.nd rfl (Or.inl rfl) (pe_op op_modN (pe_callTy call_int1 (by rfl) T.int (by decide +kernel) (pa_cons (pe_op op_pow (pe_op op_add (pe_op op_add (pe_op op_modN (pe_callTy call_int1 (by rfl) T.int (by decide +kernel) (pa_cons (pv 4) pa_nil)) pe_int) (pe_op op_mul pe_int (pv 3))) pe_int) pe_int) pa_nil)) pe_int))
      (pss_cons (ps_set (i := 6) scDraw.nd rfl (Or.inl rfl) (pe_op op_modN (pe_callTy call_int1 (by rfl) T.int (by decide +kernel) (pa_cons (pe_op op_pow (pe_op op_add (pe_op op_add (pe_op op_mul (pv 6) (pe_op op_add (pe_op op_mul pe_int (pv 3)) pe_int)) (pe_op op_mul (pe_op op_mul pe_int (pv 3)) (pv 3))) pe_int) pe_int) pa_nil)) pe_int))
      (pss_one (ps_ret (pe_op op_modN (pe_callTy call_int1 (by rfl) T.int (by decide +kernel) (pa_cons (pe_op op_fdivN (pv 6) pe_int) pa_nil)) (pv 1)))))))))))), ?_⟩
    refine ⟨_, rfl, p, _, _, _, rfl, rfl, SqL.of hp, atI_nat (j := 2) rfl, _, _, rfl, rfl, _, rfl, ite2 (fun hg => ?_) (fun hg => ?_)⟩
    · have hl := of_decide_eq_true hg
      refine ⟨_, rfl, p, _, _, _, rfl, rfl, SqL.of hp, atI_nat (j := 2) rfl, .inl ⟨_, rfl, _, rfl, _, _, rfl, rfl, hmne, ?_⟩⟩
      refine ⟨_, rfl, p, _, _, _, rfl, rfl, SqL.of hp, atI_nat (j := 2) rfl, _, rfl, _, _, rfl, rfl, ⟨hmne, hmab⟩, _, rfl, p, _, _, 2, rfl, rfl, hp, rfl, _, rfl, ?_⟩
      refine k _ _ (fmod_lo m0) (fmod_hi m0) (Keep.refl _ _).at ?_
      exact hP.set a0 (by omega) (fdiv_nn l0 m0)
    · have hat : a ≤ 100000 := by omega
      -- at = pen[1]; pen[1] = at + 1; cell = 8627 * at + 349; pen[0] != []
      refine ⟨_, rfl, p, _, _, _, rfl, rfl, SqL.of hp, atI_nat (j := 1) rfl, _, rfl, _, _, rfl, rfl, _, rfl, p, _, _, 1, rfl, rfl, hp, rfl, ?_⟩
      generalize hH1 : upd H p (HO.lst ([V.ref c, V.int a, V.int l].set 1 ((fun i j => V.int (i + j)) a 1))) = H1
      replace hH1 : upd H p (.lst [.ref c, .int (a + 1), .int l]) = H1 := hH1
      have hp1 : H1 p = some (.lst [.ref c, .int (a + 1), .int l]) := by rw [← hH1]; exact upd_same
      have hc1 : H1 c = some (.lst (ns.map V.int)) := by rw [← hH1, upd_ne hP.ne]; exact hP.cells
      have k1 : Keep p H H1 := by rw [← hH1]; exact (Keep.refl p H).at
      refine ⟨_, rfl, _, _, rfl, rfl, .inl ⟨by decide, by decide⟩, _, _, rfl, rfl, ?_⟩
      refine ⟨_, rfl, p, _, _, _, rfl, rfl, SqL.of hp1, atI_nat (j := 0) rfl, Nat.zero_le _, fun e he => ?_⟩
      have he0 : H e = none := by
        cases q : H e with
        | none => rfl
        | some o =>
          by_cases ep : e = p
          · rw [ep, hp1] at he; cases he
          · rw [k1 e o q ep] at he; cases he
      have hp2 : (upd H1 e (.lst [])) p = some (.lst [.ref c, .int (a + 1), .int l]) := by rw [upd_ne (ne_of_none hp1 he)]; exact hp1
      have hc2 : (upd H1 e (.lst [])) c = some (.lst (ns.map V.int)) := by rw [upd_ne (ne_of_none hc1 he)]; exact hc1
      have k2 : Keep p H (upd H1 e (.lst [])) := k1.new he0
      have P2 : Pen (upd H1 e (.lst [])) p c ns (n + 1) := ⟨⟨a + 1, l, hp2, by omega, by omega, l0⟩, hc2, hP.small⟩
      have hee : (upd H1 e (.lst [])) e = some (.lst []) := upd_same
      generalize hH2 : upd H1 e (.lst []) = H2 at hp2 hc2 k2 P2 hee ⊢
      refine ⟨.list (ns.map PyData.int), .list [], .lst (SqL.of hc2) (ints_dp _ _ ns), .lst (SqL.of hee) .nil, shaped_ints ns, rfl, _, rfl, ?_⟩
      rw [eqv_nil]
      have hz0 : ns = [] ∨ ∃ z r, ns = z :: r := by cases ns with
        | nil => exact .inl rfl
        | cons z r => exact .inr ⟨z, r, rfl⟩
      have hzc : ∀ j : Nat, j < ns.length → ∃ z : Int, (ns.map V.int)[j]? = some (V.int z) := fun j hj => ⟨ns[j], by rw [List.getElem?_map, List.getElem?_eq_getElem hj]; rfl⟩
      refine ite2 (fun hb => ?b1) (fun hb => ?b2)
      case' b1 =>
        have hlen : 0 < ns.length := by
          cases ns with
          | nil => cases hb
          | cons z r => simp
        have hlen2 : (0 : Int) < ((ns.map V.int).length : Int) := by rw [List.length_map]; omega
        obtain ⟨j, hj⟩ : ∃ j : Nat, a.fmod ((ns.map V.int).length : Int) = (j : Int) := ⟨(a.fmod ((ns.map V.int).length : Int)).toNat, (Int.toNat_of_nonneg (fmod_lo hlen2)).symm⟩
        have hj2 : j < ns.length := by
          have := fmod_hi (a := a) hlen2
          rw [hj, List.length_map] at this
          omega
        obtain ⟨z, hz⟩ := hzc j hj2
        refine ⟨_, rfl, p, _, _, _, rfl, rfl, SqL.of hp2, atI_nat (j := 0) rfl, _, rfl, .inl ⟨_, rfl, _, rfl, p, _, _, _, rfl, rfl, SqL.of hp2, atI_nat (j := 0) rfl, c, _, rfl, .inl (SqL.of hc2), _, _, rfl, rfl, by omega, c, _, _, _, rfl, rfl, SqL.of hc2, at_of hj hz, ?_⟩⟩
      case' b2 => generalize hz9 : (fun i j => V.int (i + j)) (8627 * a) 349 = zz; replace hz9 : zz = .int (8627 * a + 349) := hz9.symm; subst hz9; generalize 8627 * a + 349 = z
      all_goals
        -- at < len(pen[0]) and abs(cell) >= 10 ** 18
        have pw18 : (10 : Int) ^ (18 : Int).toNat = 1000000000000000000 := by decide
        have tl : ∀ (v : Int), 0 ≤ v → v < m → Q (.int v) H2 := fun v h0 h1 => k v H2 h0 h1 k2 P2
        refine (fun t => ⟨_, rfl, _, rfl, p, _, _, _, rfl, rfl, SqL.of hp2, atI_nat (j := 0) rfl, c, _, rfl, .inl (SqL.of hc2), _, _, rfl, rfl, _, rfl, ite2 (fun hq1 =>
          ⟨_, rfl, _, rfl, _, _, rfl, rfl, ⟨by decide, by decide, by decide⟩, _, _, rfl, rfl, _, rfl, ite2 (fun hq2 => ?_) (fun _ => t)⟩) (fun _ => iteF t)⟩) ?_
        · -- mixed
          refine ⟨_, rfl, .inl ⟨_, rfl, _, _, rfl, rfl, (by show (2147483549 : Int) ≠ 0; decide), _, rfl, _, _, rfl, rfl, .inl ⟨by decide, by decide⟩, _, _, rfl, rfl, _, _, rfl, rfl, _, _, rfl, rfl, ⟨by decide, by decide, ?_⟩, .inl ⟨_, rfl, _, _, rfl, rfl, (by show (2147483629 : Int) ≠ 0; decide), ?_⟩⟩⟩
          · have h1 := fmod_lo (a := z) (m := 2147483549) (by decide)
            have h2 := fmod_hi (a := z) (m := 2147483549) (by decide)
            generalize z.fmod 2147483549 = y at h1 h2 ⊢
            omega
          have g1 := fmod_lo (a := (z.fmod 2147483549 + 52361 * a + 71) ^ (3 : Int).toNat) (m := 2147483629) (by decide)
          have g2 := fmod_hi (a := (z.fmod 2147483549 + 52361 * a + 71) ^ (3 : Int).toNat) (m := 2147483629) (by decide)
          have b1 := mul_bnd (X := 2147483629) (y := 2 * a + 53) (Y := 200053) g1 (Int.le_of_lt g2) (by omega) (by omega)
          have b2 := mul_bnd (x := 61417 * a) (X := 6141700000) (y := a) (Y := 100000) (by omega) (by omega) a0 hat
          refine ⟨_, rfl, _, rfl, _, _, rfl, rfl, .inl ⟨by decide, by decide⟩, _, _, rfl, rfl, _, _, rfl, rfl, .inl ⟨?_, ?_⟩, _, rfl, _, _, rfl, rfl, .inl ⟨by decide, by decide⟩, _, rfl, _, _, rfl, rfl, .inl ⟨?_, ?_⟩, _, _, rfl, rfl, _, _, rfl, rfl, _, _, rfl, rfl, ⟨by decide, by decide, ?_⟩, .inl ⟨_, rfl, _, _, rfl, rfl, (by show (2147483587 : Int) ≠ 0; decide), ?_⟩⟩
          · omega
          · omega
          · omega
          · omega
          · omega
          have g3 := fmod_lo (a := ((((z.fmod 2147483549 + 52361 * a + 71) ^ (3 : Int).toNat).fmod 2147483629) * (2 * a + 53) + 61417 * a * a + 23) ^ (5 : Int).toNat) (m := 2147483587) (by decide)
          refine ⟨_, rfl, _, _, rfl, rfl, ⟨by decide, by decide⟩, .inl ⟨_, rfl, _, rfl, _, _, rfl, rfl, hmne, tl _ (fmod_lo m0) (fmod_hi m0)⟩⟩
        · -- great
          refine ⟨_, rfl, _, rfl, _, _, rfl, rfl, ⟨by decide, by decide, by decide⟩, _, _, rfl, rfl, _, _, rfl, rfl, .inl ⟨by decide, by decide⟩, _, rfl, _, _, rfl, rfl, .inr ⟨_, rfl, _, _, rfl, rfl, ?_⟩⟩
          refine ⟨_, rfl, _, rfl, _, _, rfl, rfl, ⟨hmne, hmab⟩, _, rfl, p, _, _, 2, rfl, rfl, hp2, rfl, _, rfl, .inl ⟨_, rfl, _, rfl, _, _, rfl, rfl, hmne, ?_⟩⟩
          refine k _ _ (fmod_lo m0) (fmod_hi m0) k2.at (P2.set (by omega) (by omega) (fdiv_nn ?_ m0))
          have hge := of_decide_eq_true hq2
          rw [pw18] at hge ⊢
          split at hge <;> split <;> omega
end
end K2
end
section
set_option Elab.async false
set_option maxRecDepth 100000
set_option linter.all false
namespace K2
open PySem L2
abbrev sBarred : Stmt := top 31
abbrev sWords : Stmt := top 32
/-- a def of the program: its text, where it stands, how it binds -/
structure Df (K : PySem.W.Frag) (mg : Str → Option Value) (x : Str) (st : Stmt) (f : Addr) (fd : FuncData) (ps : List Str) : Prop where
  F : Fun K x x st f fd
  m : mg x = some (.ref f)
  b : Binds K fd ps []
/-- a list of the heap, or a text: its items -/
def SeqV (p : Addr) (H : Hp) (y : V) (xs : List V) : Prop := (∃ l, y = .ref l ∧ l ≠ p ∧ H l = some (.lst xs)) ∨ (∃ z : Str, y = .str z ∧ xs = (codes z).map (fun c => V.str ⟨#[c]⟩) ∧ z.length ≤ 100) ∨ (∃ t, y = .ref t ∧ t ≠ p ∧ H t = some (.tup xs))
def spPick : Sp := fun vs H Q _ => ∃ (p c : Addr) (ns : List Int) (n : Nat) (y : V) (xs : List V), vs = [.ref p, y] ∧ Pen H p c ns n ∧ n ≤ 100000 ∧ SeqV p H y xs ∧ xs ≠ [] ∧ xs.length ≤ 1000 ∧
  ∀ (j : Nat) (v : V) (H' : Hp), xs[j]? = some v → Keep p H H' → Pen H' p c ns (n + 1) → Q v H'
def spBarred : Sp := fun vs H Q _ => vs = [] ∧ ∀ l, H l = none → Q (.ref l) (upd H l (.lst (barred.map V.str)))
section
variable {P : Program} {w : World} {K : PySem.W.Frag} {mg : Str → Option Value} {base : Heap}
theorem scPick : FnScope ["_law_pen_here", "_law_some"] ["_law_pen_here", "_law_some"] (defScope sPick) := ⟨rfl, rfl, rfl, by decide +kernel, rfl, by decide +kernel, by decide +kernel⟩
theorem ok_pick {f fD : Addr} {fd fdD : FuncData} (F : Fun K "_law_pick" "_law_pick" sPick f fd) (T : Bi mg) (D : Df K mg "_law_draw" sDraw fD fdD ["_law_pen_here", "_law_many"]) : FnOk P w K mg base CX0 2 f fd ["_law_pen_here", "_law_some"] spPick := by
  have GD : FnOk P w K mg base CX0 1 fD fdD ["_law_pen_here", "_law_many"] spDraw := ok_draw D.F T
  refine F.ok scPick (fun vs H Q E h => ?_) (fun cdv A outer s H vs Q E hr h => ?_)
  · obtain ⟨p, c, ns, n, y, xs, rfl, _⟩ := h
    rfl
  · obtain ⟨p, c, ns, n, y, xs, rfl, hP, hn, hS, hne, hlen, k⟩ := h
    refine ⟨_, (pss_one (ps_ret (pe_ix ix_seq (pv 1) (pe_call GD hr (by rfl) D.m D.F.kp D.b .nil pass0 (pa_cons (pv 0) (pa_cons (pe_callB call_len (by rfl) T.len PySem.boot_len (pa_cons (pv 1) pa_nil)) pa_nil))) (fun _ _ => rfl)))), ?_⟩
    have hx0 : 0 < xs.length := List.length_pos_iff.mpr hne
    have hL : LenV K y H xs.length := by
      rcases hS with ⟨l, rfl, _, hl⟩ | ⟨z, rfl, rfl, hz⟩ | ⟨t, rfl, _, ht⟩
      · exact .inl ⟨_, SqL.of hl, rfl⟩
      · refine ⟨Nat.le_trans hz (by decide), ?_⟩
        rw [List.length_map]
        rfl
      · exact .inr ⟨_, SqT.of ht, rfl⟩
    refine ⟨_, rfl, _, rfl, _, rfl, _, _, rfl, hL, p, c, ns, n, _, rfl, hP, hn, by omega, by omega, fun v H' h0 h1 kp P' => ?_⟩
    obtain ⟨j, rfl⟩ : ∃ j : Nat, v = (j : Int) := ⟨v.toNat, (Int.toNat_of_nonneg h0).symm⟩
    have hj : j < xs.length := by omega
    have hv : xs[j]? = some xs[j] := List.getElem?_eq_getElem hj
    rcases hS with ⟨l, rfl, hlp, hl⟩ | ⟨z, rfl, rfl, hz⟩ | ⟨t, rfl, htp, ht⟩
    · exact .inl ⟨l, xs, _, _, rfl, rfl, SqL.of (kp l _ hl hlp), atI_nat hv, k j _ H' hv kp P'⟩
    · refine .inr (.inr ⟨z, _, (codes z)[j]'(by rw [List.length_map] at hj; exact hj), rfl, rfl, Nat.le_trans hz (by decide), atI_nat (List.getElem?_eq_getElem _), k j _ H' ?_ kp P'⟩)
      rw [List.getElem?_map, List.getElem?_eq_getElem (by rw [List.length_map] at hj; exact hj)]
      rfl
    · exact .inr (.inl ⟨t, xs, _, _, rfl, rfl, SqT.of (kp t _ ht htp), atI_nat hv, k j _ H' hv kp P'⟩)
theorem scBarred : FnScope ["_law_text"] [] (defScope sBarred) := ⟨rfl, rfl, rfl, by decide +kernel, rfl, by decide +kernel, by decide +kernel⟩
theorem ok_barred {f : Addr} {fd : FuncData} (F : Fun K "_law_barred" "_law_barred" sBarred f fd) : FnOk P w K mg base CX0 1 f fd [] spBarred := by
  refine F.ok scBarred (fun vs H Q E h => ?_) (fun cdv A outer s H vs Q E hr h => ?_)
  · obtain ⟨rfl, _⟩ := h
    rfl
  · obtain ⟨rfl, k⟩ := h
    refine ⟨_, (pss_cons (ps_set (i := 0) scBarred.nd rfl (Or.inl rfl) pe_str)
      (pss_cons (ps_set (i := 0) scBarred.nd rfl (Or.inl rfl) (pe_op op_add_str (pv 0) pe_str))
      (pss_one (ps_ret (pe_split (pv 0) pe_str))))), ?_⟩
    refine ⟨_, rfl, _, _, rfl, rfl, by decide +kernel, _, rfl, ⟨_, rfl⟩, _, _, rfl, rfl, by decide +kernel, by decide +kernel, fun l hl => ?_⟩
    have e : barred = Txt.split ((Str.ofString "pass raise from none again return returns break call handling else either or loop") ++ Str.ofString " try except as finally with quiet class def error vacant") (Str.ofString " ") := by decide +kernel
    have := k l hl
    rw [e] at this
    exact this
end
end K2
end
section
set_option Elab.async false
set_option maxRecDepth 100000
set_option linter.all false
namespace K2
open PySem L2
theorem strs_ne_pen {ys : List Str} {c : Addr} {a l : Int} : HO.lst (ys.map V.str) ≠ penO c a l := by
  unfold penO
  intro e
  injection e with e
  cases ys with
  | nil => simp at e
  | cons y ys => simp at e
theorem str_eqV (a b : Str) : eqV (.str a) (.str b) = decide (a = b) := by
  show (a == b) = decide (a = b)
  by_cases h : a = b
  · simp [h]
  · simp [h]
theorem inV_strs (x : Str) : ∀ ys : List Str, inV (.str x) (ys.map V.str) = decide (x ∈ ys)
  | [] => rfl
  | y :: ys => by
    show (eqV (.str y) (.str x) || inV (.str x) (ys.map V.str)) = decide (x ∈ y :: ys)
    rw [inV_strs x ys, str_eqV]
    by_cases h : y = x
    · subst h; simp
    · have h2 : ¬ x = y := fun e => h e.symm
      simp [h, h2]
theorem flat_strs : ∀ ys : List Str, (ys.map V.str).all flatV = true
  | [] => rfl
  | y :: ys => by
    show (true && (ys.map V.str).all flatV) = true
    rw [flat_strs ys]
    rfl
theorem codes_append (x y : Str) : codes (x ++ y) = codes x ++ codes y := TL.tl_append x y
theorem codes_one (c : Nat) : codes ⟨#[c]⟩ = [c] := rfl
theorem len_codes (x : Str) : x.length = (codes x).length := by
  show x.cps.size = x.cps.toList.length
  simp
theorem join_ones : ∀ l : List Nat, codes (Txt.join Str.empty (l.map fun c => (⟨#[c]⟩ : Str))) = l := by
  intro l
  rw [TL.join_eq]
  show TL.tl (Str.join Str.empty _) = l
  rw [TL.tl_join]
  show TL.joinL [] _ = l
  induction l with
  | nil => rfl
  | cons c l ih =>
    cases l with
    | nil => rfl
    | cons d l =>
      show [c] ++ ([] ++ TL.joinL [] _) = _
      rw [List.nil_append]
      show [c] ++ TL.joinL [] (List.map TL.tl (List.map (fun c => (⟨#[c]⟩ : Str)) (d :: l))) = c :: d :: l
      rw [ih]
      rfl
theorem cut_to {z : Str} {k : Nat} (h : k ≤ (codes z).length) : codes (cutS z none (some (k : Int))) = (codes z).take k := by
  unfold cutS codes
  rw [HT.sIx_nat, HT.sIx_none]
  have e : z.length = z.cps.toList.length := len_codes z
  have h' : k ≤ z.cps.toList.length := h
  simp only [List.drop_zero, Nat.sub_zero]
  rw [Nat.min_eq_left (by omega)]
theorem cut_from {z : Str} {k : Nat} (h : k ≤ (codes z).length) : codes (cutS z (some (k : Int)) none) = (codes z).drop k := by
  unfold cutS codes
  rw [HT.sIx_nat, HT.sIx_none]
  have e : z.length = z.cps.toList.length := len_codes z
  have h' : k ≤ z.cps.toList.length := h
  rw [Nat.min_eq_left (by omega), e]
  simp only []
  rw [List.take_of_length_le (by rw [List.length_drop]; omega)]
theorem Pen.pne {H : Hp} {p c q : Addr} {ns : List Int} {n : Nat} (h : Pen H p c ns n) (hq : H q = none) : p ≠ q := by
  obtain ⟨a, l, g, _⟩ := h.pen
  exact ne_of_none g hq
theorem Pen.cne {H : Hp} {p c q : Addr} {ns : List Int} {n : Nat} (h : Pen H p c ns n) (hq : H q = none) : c ≠ q := ne_of_none h.cells hq
theorem Keep.fresh {p c q : Addr} {ns : List Int} {n : Nat} {H H1 : Hp} (k : Keep p H H1) (P1 : Pen H1 p c ns n) (h : H1 q = none) : H q = none := by
  cases e : H q with
  | none => rfl
  | some o =>
    rw [k q o e (P1.pne h).symm] at h
    cases h
theorem Pen.strs_ne {H : Hp} {p c q : Addr} {ns : List Int} {n : Nat} {ys : List Str} (h : Pen H p c ns n) (hq : H q = some (.lst (ys.map V.str))) : q ≠ p := fun e => by
  obtain ⟨a, l, g, _⟩ := h.pen
  rw [e, g] at hq
  exact strs_ne_pen (Option.some.inj hq).symm
section
variable {X : Cx}
theorem mulOk_small {x : Str} {k : Int} (h0 : 0 ≤ k) (h1 : k ≤ 8) (hx : x.length ≤ 8) : MulOk x k := by
  refine ⟨?_, fun _ _ => ?_, fun _ _ => ?_⟩
  · simp only [Bool.or_eq_false_iff, decide_eq_false_iff_not]
    omega
  · have : k = 0 ∨ k = 1 ∨ k = 2 ∨ k = 3 ∨ k = 4 ∨ k = 5 ∨ k = 6 ∨ k = 7 ∨ k = 8 := by omega
    rcases this with rfl | rfl | rfl | rfl | rfl | rfl | rfl | rfl | rfl <;> omega
  · unfold Builtin.Str.tooLong
    rw [decide_eq_false_iff_not]
    have h2 : x.length * k.toNat ≤ 8 * 8 := Nat.mul_le_mul hx (by omega)
    have : sizeLine = 16777216 := rfl
    omega
/-! the same rules with the written part named apart (within a comprehension) -/
theorem pe_bmK {K' : PySem.W.Frag} {T : String} {name : Str} {id : String} {r : V → List V → Hp → VK → Prop} {o e : Expr} {es : List Expr} {to : TE} {t : TA} {apos cpos : Pos} (hK : X.K = K') (pa : PlainAttrs T) (slot : PySem.Slot T name id) (hty : typeOf (.builtin id) = pure (.type "method_descriptor")) (hm : MtR X id r) (ho : PE X o to) (ha : PA X (e :: es) t)
    (hbase : attributeBase o name X.env (eval o X.env) = eval o X.env := by rfl)
    (hfew : ((backTo cpos (starEach (e :: es) X.env)).all (fun x => !x.1) && (backToKw cpos (keywordEach [] X.env)).all (fun x => x.1.isSome)
      && decide ((e :: es).length + ([] : List Keyword).length + (if ([] : List Keyword).isEmpty then 0 else 1) < 30)) = true := by rfl)
    (hline : (apos.endLine == cpos.line) = true := by rfl) (hs : starEach (e :: es) X.env = (false, eval e X.env) :: starEach es X.env := by rfl) (hplain : (backTo cpos (starEach es X.env)).any (·.1) = false := by rfl) :
    PE X (.Call (.Attribute o name apos) (e :: es) [] cpos) (tBM K' T r to t) := by
  subst hK
  exact pe_bm pa slot hty hm ho ha hbase hfew hline hs hplain
theorem call_len_seqK {K' : PySem.W.Frag} (hK : X.K = K') : CallR X (.builtin "len") (fun xs H Q => ∃ p ys, xs = [V.ref p] ∧ (SqL K' H p ys ∨ SqT K' H p ys) ∧ Q (.int ys.length) H) := by
  subst hK
  exact call_len_seq
theorem ix_listK {K' : PySem.W.Frag} (hK : X.K = K') : IxR X (rIxL K') := by
  subst hK
  exact ix_list
theorem op_in_seqK {K' : PySem.W.Frag} (hK : X.K = K') : OpR X (compareOp .In) (rIn K' false) := by
  subst hK
  exact op_in_seq
theorem op_notIn_seqK {K' : PySem.W.Frag} (hK : X.K = K') : OpR X (compareOp .NotIn) (rIn K' true) := by
  subst hK
  exact op_notIn_seq
theorem op_mul_str : OpR X (binaryOp .Mult) (fun x y H Q => ∃ a k, x = .str a ∧ y = .int k ∧ 0 ≤ k ∧ k ≤ 8 ∧ a.length ≤ 8 ∧ Q (.str (Txt.mul a k)) H) := by
  intro pins s σ H x y v u Q I rx ry h
  obtain ⟨a, k, rfl, rfl, h0, h1, hx, q⟩ := h
  obtain ⟨t, rfl⟩ := rx
  obtain ⟨t', rfl⟩ := ry
  exact SB.mul (mulOk_small h0 h1 hx) (fun t' tk => ⟨.str (Txt.mul a k), H, I.tok _, ⟨_, rfl⟩, q⟩)
end
end K2
end
section
set_option Elab.async false
set_option maxRecDepth 100000
set_option linter.all false
namespace K2
open PySem L2
theorem low_letters : ∀ c ∈ codes (Str.ofString "abcdefghijklmnopqrstuvwxyz"), 97 ≤ c ∧ c ≤ 122 := by decide +kernel
theorem at_letters : ∀ j, j < 26 → (codes (Str.ofString "abcdefghijklmnopqrstuvwxyz"))[j]? = some (97 + j) := by decide +kernel
theorem sum_ones : ∀ l : List Nat, (((l.map fun c => (⟨#[c]⟩ : Str)).map (·.length)).sum) = l.length
  | [] => rfl
  | c :: l => by
    rw [List.map_cons, List.map_cons, List.sum_cons, sum_ones l, List.length_cons]
    show 1 + l.length = l.length + 1
    omega
theorem if01 (c : Bool) : 0 ≤ (if c = true then (1 : Int) else 0) ∧ (if c = true then (1 : Int) else 0) ≤ 8 := by cases c <;> decide
theorem fin_q {W : Str} {b : List Nat} {spot f h i : Nat} (e : codes W = wordAt b spot (signAt f h i)) (hi : 26 ≤ i) : W ++ Str.ofString "q" = txt (finalAt b spot f h i) := by
  refine codes_inj ?_
  rw [codes_append, codes_txt, e]
  unfold finalAt
  dsimp only
  rw [if_pos hi]
  rfl
theorem fin_z {W : Str} {b : List Nat} {spot f h i : Nat} (e : codes W = wordAt b spot (signAt f h i)) (hi : ¬ 26 ≤ i) : W ++ Txt.mul (Str.ofString "z") (if W ∈ barred then 1 else 0) = txt (finalAt b spot f h i) := by
  refine codes_inj ?_
  have eW : txt (wordAt b spot (signAt f h i)) = W := by rw [← e, txt_codes]
  rw [codes_append, codes_txt, e]
  unfold finalAt
  dsimp only
  rw [if_neg hi, eW]
  congr 1
  by_cases hb : W ∈ barred
  · rw [if_pos hb, if_pos hb]
    decide +kernel
  · rw [if_neg hb, if_neg hb]
    decide +kernel
theorem finals_succ (b : List Nat) (spot f h i : Nat) : finals b spot f h (i + 1) = finals b spot f h i ++ [txt (finalAt b spot f h i)] := by
  unfold finals
  rw [List.range_succ, List.map_append]
  rfl
/-- a fresh list of m words -/
def spWords : Sp := fun vs H Q _ => ∃ (p c : Addr) (ns : List Int) (n m : Nat), vs = [.ref p, .int m] ∧ Pen H p c ns n ∧ n + 12 ≤ 100000 ∧ m ≤ 31 ∧
  ∀ (l : Addr) (ws : List Str) (H' : Hp), Words ws → ws.length = m → H' l = some (.lst (ws.map V.str)) → Keep p H H' → Pen H' p c ns (n + 12) → Q (.ref l) H'
abbrev nWords : List Str := ["_law_pen_here", "_law_many", "_law_letters", "_law_k", "_law_base", "_law_spot", "_law_first", "_law_hop", "_law_found", "_law_sign", "_law_word", "_law_more"]
section
variable {P : Program} {w : World} {K : PySem.W.Frag} {mg : Str → Option Value} {base : Heap}
theorem scWords : FnScope nWords ["_law_pen_here", "_law_many"] (defScope sWords) := ⟨rfl, rfl, rfl, by decide +kernel, rfl, by decide +kernel, by decide +kernel⟩
theorem ok_words {f fD fP fB : Addr} {fd fdD fdP fdB : FuncData} (F : Fun K "_law_words" "_law_words" sWords f fd) (T : Bi mg) (D : Df K mg "_law_draw" sDraw fD fdD ["_law_pen_here", "_law_many"]) (PK : Df K mg "_law_pick" sPick fP fdP ["_law_pen_here", "_law_some"])
    (BA : Df K mg "_law_barred" sBarred fB fdB []) : FnOk P w K mg base CX0 3 f fd ["_law_pen_here", "_law_many"] spWords := by
  have GD : FnOk P w K mg base CX0 1 fD fdD ["_law_pen_here", "_law_many"] spDraw := ok_draw D.F T
  have GP : FnOk P w K mg base CX0 2 fP fdP ["_law_pen_here", "_law_some"] spPick := ok_pick PK.F T D
  have GB : FnOk P w K mg base CX0 1 fB fdB [] spBarred := ok_barred BA.F
  refine F.ok scWords (fun vs H Q E h => ?_) (fun cdv A outer s H vs Q E hr h => ?_)
  · obtain ⟨p, c, ns, n, m, rfl, _⟩ := h
    rfl
  · obtain ⟨p, c, ns, n, m, rfl, hP, hn, hm, k⟩ := h
    have hr1 : Room 2 _ := hr
    have hr0 : Room 1 _ := hr.mono (by decide)
    refine ⟨_, (pss_cons (ps_set (i := 2) scWords.nd rfl (Or.inr rfl) pe_str)
      (pss_cons (ps_set (i := 4) scWords.nd rfl (Or.inl rfl) (pe_join pe_str (pe_lc (own := [("_law_k", 3)]) (g := gName 3) (tt := tYes) rfl scWords.nd (pi_range1 rfl T.range (pa_cons (pe_call GD hr0 (by rfl) D.m D.F.kp D.b .nil pass0 (pa_cons (pv 0) (pa_cons pe_int pa_nil))) pa_nil)) (blkOk_by (N := nWords) (sc := defScope sWords) (by decide +kernel)) (fun _ _ _ _ _ => pg_name (i := 3) scWords.nd rfl (Or.inl rfl)) (fun _ _ _ _ _ => pts_nil) (fun _ _ _ _ _ => pe_call GP hr1 (by rfl) PK.m PK.F.kp PK.b .nil pass0 (pa_cons (pv 0) (pa_cons (pv 2) pa_nil))))))
      (pss_cons (ps_set (i := 4) scWords.nd rfl (Or.inl rfl) (pe_call GP hr1 (by rfl) PK.m PK.F.kp PK.b .nil pass0 (pa_cons (pv 0) (pa_cons (pe_lst (pa_cons (pv 4) (pa_cons (pv 4) (pa_cons (pv 4) (pa_cons pe_str (pa_cons pe_str (pa_cons pe_str pa_nil))))))) pa_nil))))
      (pss_cons (ps_set (i := 5) scWords.nd rfl (Or.inl rfl) (pe_call GD hr0 (by rfl) D.m D.F.kp D.b .nil pass0 (pa_cons (pv 0) (pa_cons (pe_op op_add (pe_callB call_len_str (by rfl) T.len PySem.boot_len (pa_cons (pv 4) pa_nil)) pe_int) pa_nil))))
      (pss_cons (ps_set (i := 6) scWords.nd rfl (Or.inl rfl) (pe_call GD hr0 (by rfl) D.m D.F.kp D.b .nil pass0 (pa_cons (pv 0) (pa_cons pe_int pa_nil))))
      (pss_cons (ps_set (i := 7) scWords.nd rfl (Or.inl rfl) (pe_call GP hr1 (by rfl) PK.m PK.F.kp PK.b .nil pass0 (pa_cons (pv 0) (pa_cons (pe_lst (pa_cons pe_int (pa_cons pe_int (pa_cons pe_int (pa_cons pe_int (pa_cons pe_int (pa_cons pe_int pa_nil))))))) pa_nil))))
      (pss_cons (ps_set (i := 8) scWords.nd rfl (Or.inl rfl) (pe_lst pa_nil))
      (pss_cons (ps_for PassesOwn.never rfl (pi_range1 rfl T.range (pa_cons (pv 1) pa_nil)) (pg_name (i := 3) scWords.nd rfl (Or.inl rfl))
      (pss_cons (ps_set (i := 9) scWords.nd rfl (Or.inl rfl) (pe_ix ix_str (pv 2) (pe_op op_modN (pe_callTy call_int1 (by rfl) T.int (by decide +kernel) (pa_cons (pe_op op_add (pv 6) (pe_op op_mul (pv 7) (pv 3))) pa_nil)) pe_int) (fun _ _ => rfl)))
        (pss_cons (ps_set (i := 10) scWords.nd rfl (Or.inl rfl) (pe_op op_add_str (pe_op op_add_str (pe_slice sl_str (pv 4) po_none (po_some (pv 5))) (pv 9)) (pe_slice sl_str (pv 4) (po_some (pv 5)) po_none)))
        (pss_cons (ps_set (i := 11) scWords.nd rfl (Or.inl rfl) (pe_op op_mul_str pe_str (pe_callTy call_int1 (by rfl) T.int (by decide +kernel) (pa_cons (pe_cmpR op_in_seq (pv 10) (pe_call0 GB hr0 (by rfl) BA.m BA.F.kp BA.b .nil pass0) rfl) pa_nil))))
        (pss_one (ps_expr (pe_bm PySem.F.plainAttrs_list PySem.F.slot_list_append PySem.F.type_list_append mt_append (pv 8) (pa_cons (pe_op op_add_str (pv 10) (pe_ifExp (pt_cmpR op_ge (pv 3) pe_int (nomark _)) pe_str (pv 11))) pa_nil))))))))
      (pss_one (ps_ret (pv 8))))))))))), ?_⟩
    -- letters; the first base
    refine ⟨⟨_, rfl⟩, _, rfl, p, c, ns, n, 7, rfl, hP, by omega, by decide, by decide, fun v1 H1 v10 v11 k1 P1 => ?_⟩
    obtain ⟨q1, rfl⟩ : ∃ j : Nat, v1 = (j : Int) := ⟨v1.toNat, (Int.toNat_of_nonneg v10).symm⟩
    refine ⟨_, rfl, by omega, by omega, fun D1 hD1 => ?_⟩
    have hD1H : H D1 = none := k1.fresh P1 hD1
    have hpD := P1.pne hD1
    have hcD := P1.cne hD1
    refine lc_range (lo := 0) (n := q1) (fun i Hc => ∃ ys : List Nat, Low ys ∧ ys.length = i ∧ Hc D1 = some (.lst ((ys.map fun c => (⟨#[c]⟩ : Str)).map V.str)) ∧ Keep p H Hc ∧ Pen Hc p c ns (n + 1 + i)) ?_ ?_ ?_
    · refine ⟨[], fun _ h => (by cases h), rfl, upd_same, k1.new hD1H, P1.new hD1⟩
    · rintro i Hc hi ⟨ys, hys, hyl, hD, kc, Pc⟩
      have hDp : D1 ≠ p := hpD.symm
      refine ⟨rfl, _, rfl, _, rfl, p, c, ns, n + 1 + i, _, _, rfl, Pc, by omega, .inr (.inl ⟨_, rfl, rfl, by decide +kernel⟩), by decide +kernel, by decide +kernel, fun j v Hd hv kd Pd => ?_⟩
      rw [List.getElem?_map] at hv
      cases hc : (codes (Str.ofString "abcdefghijklmnopqrstuvwxyz"))[j]? with
      | none => rw [hc] at hv; cases hv
      | some ch =>
        rw [hc] at hv
        cases hv
        have hch := low_letters ch (List.mem_of_getElem? hc)
        refine ⟨_, kd D1 _ hD hDp, ?_, ys ++ [ch], ?_, ?_, ?_, ?_, ?_⟩
        · rw [List.length_map, List.length_map, hyl]
          have : sizeLine = 16777216 := rfl
          omega
        · intro d hd
          rcases List.mem_append.mp hd with hd | hd
          · exact hys d hd
          · have : d = ch := by simpa using hd
            omega
        · rw [List.length_append, hyl]
          rfl
        · rw [upd_same, List.map_append, List.map_append]
          rfl
        · exact (kc.trans kd).new hD1H
        · exact Pd.upd' hpD hcD
    · -- the join, the first pick
      rintro Hj ⟨ys, hys, hyl, hD, kj, Pj⟩
      refine ⟨Str.empty, D1, ys.map fun c => (⟨#[c]⟩ : Str), rfl, rfl, .inl (SqL.of hD), ?_, ?_⟩
      · rw [sum_ones, List.length_map]
        show ys.length + ys.length * 0 ≤ 16777216
        omega
      have hb0 := join_ones ys
      generalize Txt.join Str.empty (ys.map fun c => (⟨#[c]⟩ : Str)) = b0 at hb0
      refine ⟨_, rfl, _, rfl, _, rfl, _, rfl, (by show 6 ≤ sizeLine; decide), fun l6 h6 => ?_⟩
      refine ⟨p, c, ns, n + 1 + q1, _, _, rfl, Pj.new h6, by omega, .inl ⟨l6, rfl, (Pj.pne h6).symm, upd_same⟩, by simp, (by show 6 ≤ 1000; decide), fun j6 v6 H2 hv6 k2 P2 => ?_⟩
      obtain ⟨b, rfl, hbl, hb6⟩ : ∃ b : Str, v6 = .str b ∧ Low (codes b) ∧ (codes b).length ≤ 6 := by
        have hm6 := List.mem_of_getElem? hv6
        have l0 : Low (codes b0) ∧ (codes b0).length ≤ 6 := by rw [hb0]; exact ⟨hys, by omega⟩
        simp only [List.mem_cons, List.not_mem_nil, or_false] at hm6
        rcases hm6 with rfl | rfl | rfl | rfl | rfl | rfl
        · exact ⟨_, rfl, l0⟩
        · exact ⟨_, rfl, l0⟩
        · exact ⟨_, rfl, l0⟩
        · exact ⟨_, rfl, by unfold Low; decide +kernel, by decide +kernel⟩
        · exact ⟨_, rfl, by unfold Low; decide +kernel, by decide +kernel⟩
        · exact ⟨_, rfl, by unfold Low; decide +kernel, by decide +kernel⟩
      have k2' : Keep p H H2 := (kj.new (kj.fresh Pj h6)).trans k2
      -- spot
      refine ⟨_, rfl, _, rfl, _, rfl, (by rw [len_codes]; show _ ≤ 16777216; omega), _, _, rfl, rfl, p, c, ns, n + 1 + q1 + 1, _, rfl, P2, by omega, by omega, by rw [len_codes]; omega, fun vs H3 s0 s1 k3 P3 => ?_⟩
      obtain ⟨spot, rfl⟩ : ∃ j : Nat, vs = (j : Int) := ⟨vs.toNat, (Int.toNat_of_nonneg s0).symm⟩
      have hspot : spot ≤ (codes b).length := by rw [len_codes] at s1; omega
      have k3' := k2'.trans k3
      -- first
      refine ⟨_, rfl, p, c, ns, n + 1 + q1 + 1 + 1, _, rfl, P3, by omega, by decide, by decide, fun vf H4 f0 f1 k4 P4 => ?_⟩
      obtain ⟨fst, rfl⟩ : ∃ j : Nat, vf = (j : Int) := ⟨vf.toNat, (Int.toNat_of_nonneg f0).symm⟩
      have k4' := k3'.trans k4
      -- hop
      refine ⟨_, rfl, (by show 6 ≤ sizeLine; decide), fun lh hlh => ?_⟩
      refine ⟨p, c, ns, n + 1 + q1 + 1 + 1 + 1, _, _, rfl, P4.new hlh, by omega, .inl ⟨lh, rfl, (P4.pne hlh).symm, upd_same⟩, by simp, (by show 6 ≤ 1000; decide), fun jh vh H5 hvh k5 P5 => ?_⟩
      obtain ⟨hop, rfl, hhop⟩ : ∃ h : Nat, vh = .int (h : Int) ∧ h ∈ [1, 3, 5, 7, 9, 11] := by
        have hm6 := List.mem_of_getElem? hvh
        simp only [List.mem_cons, List.not_mem_nil, or_false] at hm6
        rcases hm6 with rfl | rfl | rfl | rfl | rfl | rfl
        · exact ⟨1, rfl, by simp⟩
        · exact ⟨3, rfl, by simp⟩
        · exact ⟨5, rfl, by simp⟩
        · exact ⟨7, rfl, by simp⟩
        · exact ⟨9, rfl, by simp⟩
        · exact ⟨11, rfl, by simp⟩
      have k5' : Keep p H H5 := (k4'.new (k4'.fresh P4 hlh)).trans k5
      -- found = []
      refine ⟨Nat.zero_le _, fun l hl => ?_⟩
      have hlH : H l = none := k5'.fresh P5 hl
      have hpl := P5.pne hl
      have hcl := P5.cne hl
      have hb11 : hop ≤ 11 := by
        simp only [List.mem_cons, List.not_mem_nil, or_false] at hhop
        omega
      refine ⟨_, rfl, _, rfl, by omega, by omega, for_range (lo := 0) (n := m) (fun i σ Hc => ∃ v3 v9 v10 v11 : Option V, σ = [some (.ref p), some (.int m), some (.str (Str.ofString "abcdefghijklmnopqrstuvwxyz")), v3, some (.str b), some (.int spot), some (.int fst), some (.int hop), some (.ref l), v9, v10, v11] ∧
        Hc l = some (.lst ((finals (codes b) spot fst hop i).map V.str)) ∧ Keep p H Hc ∧ Pen Hc p c ns (n + 12)) ?_ ?_ ?_⟩
      · refine ⟨_, _, _, _, rfl, upd_same, k5'.new hlH, (P5.new hl).mono (by omega)⟩
      · rintro i σ Hc hi ⟨v3, v9, v10, v11, rfl, hL, kc, Pc⟩
        have eN : ((fst : Int) + (hop : Int) * (0 + (i : Int))).fmod 26 = (((fst + hop * i) % 26 : Nat) : Int) := by
          rw [Int.zero_add, Int.fmod_eq_emod_of_nonneg _ (by decide)]
          have : ((fst : Int) + (hop : Int) * (i : Int)) = ((fst + hop * i : Nat) : Int) := by
            rw [Int.natCast_add, Int.natCast_mul]
          rw [this]
          rfl
        have hlt : (fst + hop * i) % 26 < 26 := Nat.mod_lt _ (by decide)
        refine ⟨_, rfl, _, rfl, _, rfl, _, rfl, _, _, rfl, rfl, .inl ⟨by omega, by omega⟩, _, _, rfl, rfl, .inl ⟨_, rfl, _, _, rfl, rfl, (by show (26 : Int) ≠ 0; decide), _, _, _, rfl, rfl, by decide +kernel, (by rw [eN]; exact atI_nat (at_letters _ hlt)), ?_⟩⟩
        have lc1 := len_codes b
        refine ⟨_, rfl, _, rfl, _, rfl, _, rfl, ?_, _, rfl, _, _, rfl, rfl, ?_, _, rfl, _, rfl, _, rfl, _, rfl, ?_, _, _, rfl, rfl, ?_, ?_⟩
        · rw [lc1]; show _ ≤ 16777216; omega
        · rw [len_codes (cutS b none (some (spot : Int))), cut_to hspot, List.length_take]; show _ + 1 ≤ 16777216; omega
        · rw [lc1]; show _ ≤ 16777216; omega
        · rw [len_codes (cutS b none (some (spot : Int)) ++ _), codes_append, cut_to hspot, len_codes (cutS b _ none), cut_from hspot, List.length_append, List.length_take, List.length_drop]
          show _ + 1 + _ ≤ 16777216
          omega
        have hW : codes (cutS b none (some (spot : Int)) ++ (⟨#[97 + (fst + hop * i) % 26]⟩ : Str) ++ cutS b (some (spot : Int)) none) = wordAt (codes b) spot (signAt fst hop i) := by
          rw [codes_append, codes_append, cut_to hspot, cut_from hspot]
          rfl
        generalize cutS b none (some (spot : Int)) ++ (⟨#[97 + (fst + hop * i) % 26]⟩ : Str) ++ cutS b (some (spot : Int)) none = W at hW ⊢
        refine ⟨_, rfl, rfl, fun lb hlb => ⟨lb, _, rfl, .inl (SqL.of upd_same), rfl, flat_strs _, .inr ⟨_, rfl, _, _, rfl, rfl, ?_, ?_, by decide +kernel, ?_⟩⟩⟩
        · exact (if01 _).1
        · exact (if01 _).2
        have hz : (if (if false = true then !inV (V.str W) (barred.map V.str) else inV (V.str W) (barred.map V.str)) = true then (1 : Int) else 0) = (if W ∈ barred then 1 else 0) := by
          rw [if_neg Bool.false_ne_true, inV_strs]
          by_cases hb : W ∈ barred
          · rw [if_pos hb, if_pos (by simpa using hb)]
          · rw [if_neg hb, if_neg (by simpa using hb)]
        have hlbH : H lb = none := kc.fresh Pc hlb
        have hll : l ≠ lb := ne_of_none hL hlb
        have hL2 : (upd Hc lb (.lst (barred.map V.str))) l = some (.lst ((finals (codes b) spot fst hop i).map V.str)) := by rw [upd_ne hll]; exact hL
        have kc2 : Keep p H (upd Hc lb (.lst (barred.map V.str))) := kc.new hlbH
        have Pc2 := Pc.new (o := .lst (barred.map V.str)) hlb
        have fin : ∀ x : Str, x = txt (finalAt (codes b) spot fst hop i) → (upd (upd Hc lb (.lst (barred.map V.str))) l (.lst ((finals (codes b) spot fst hop i).map V.str ++ [V.str x]))) l = some (.lst ((finals (codes b) spot fst hop (i + 1)).map V.str)) := fun x hx => by
          rw [upd_same, finals_succ, List.map_append, hx]
          rfl
        have fsz : (finals (codes b) spot fst hop i).length = i := by simp [finals]
        have lW : W.length = (codes b).length + 1 := by rw [len_codes, hW, len_wordAt]
        refine ⟨_, rfl, .inl ⟨rfl, _, SqL.of hL2⟩, _, rfl, _, rfl, _, _, rfl, rfl, _, rfl, ite2 (fun hg => ?_) (fun hg => ?_)⟩
        · have hg := of_decide_eq_true hg
          have hi26 : 26 ≤ i := by omega
          refine ⟨_, _, rfl, rfl, ?_, l, _, _, rfl, rfl, hL2, ?_, ?_⟩
          · rw [lW]; show _ + 1 ≤ 16777216; omega
          · rw [List.length_map, fsz]; show _ < 16777216; omega
          · exact ⟨_, _, _, _, rfl, fin _ (fin_q hW hi26), kc2.new hlH, Pc2.upd' hpl hcl⟩
        · have hi26 : ¬ 26 ≤ i := fun h => hg (decide_eq_true (by omega))
          refine ⟨_, rfl, _, _, rfl, rfl, ?_, l, _, _, rfl, rfl, hL2, ?_, ?_⟩
          · rw [hz, lW]
            have : (Txt.mul (Str.ofString "z") (if W ∈ barred then 1 else 0)).length ≤ 1 := by
              by_cases hb : W ∈ barred
              · rw [if_pos hb]; decide +kernel
              · rw [if_neg hb]; decide +kernel
            show _ ≤ 16777216
            omega
          · rw [List.length_map, fsz]; show _ < 16777216; omega
          · refine ⟨_, _, _, _, rfl, fin _ ?_, kc2.new hlH, Pc2.upd' hpl hcl⟩
            rw [hz]
            exact fin_z hW hi26
      · rintro σ Hc ⟨v3, v9, v10, v11, rfl, hL, kc, Pc⟩
        refine ⟨_, rfl, ?_⟩
        exact k l _ Hc (words_finals hbl hb6 hhop (by omega) spot fst) (by simp [finals]) hL kc Pc
end
end K2
end
section
set_option Elab.async false
set_option maxRecDepth 100000
set_option linter.all false
namespace K2
open PySem L2
abbrev sBegun : Stmt := top 33
theorem mul8 (ch : Nat) : Txt.mul (⟨#[ch]⟩ : Str) 8 = txt (List.replicate 8 ch) := by rfl
theorem cut_rep {ch k : Nat} (h : k < 8) : cutS (txt (List.replicate 8 ch)) none (some ((0 + (k : Int)) + 1)) = txt (List.replicate (k + 1) ch) := by
  refine codes_inj ?_
  have e : (0 + (k : Int)) + 1 = ((k + 1 : Nat) : Int) := by omega
  rw [e, cut_to (by rw [codes_txt, List.length_replicate]; omega), codes_txt, codes_txt, List.take_replicate]
  congr 1
  omega
theorem cut_first {x : Str} (h : VW x) : ∃ ch, 97 ≤ ch ∧ ch ≤ 122 ∧ cutS x none (some 1) = ⟨#[ch]⟩ := by
  have hne := h.ne
  cases hc : codes x with
  | nil => exact absurd hc hne
  | cons ch r =>
    have hl := h.low ch (by rw [hc]; simp)
    refine ⟨ch, hl.1, hl.2, codes_inj ?_⟩
    rw [show (1 : Int) = ((1 : Nat) : Int) from rfl, cut_to (by rw [hc]; simp), hc]
    rfl
theorem reps_succ (ch i : Nat) : reps ch (i + 1) = reps ch i ++ [txt (List.replicate (i + 1) ch)] := by
  unfold reps
  rw [List.range_succ, List.map_append]
  rfl
def spBegun : Sp := fun vs H Q _ => ∃ (p c : Addr) (ns : List Int) (n m : Nat), vs = [.ref p, .int m] ∧ Pen H p c ns n ∧ n + 14 ≤ 100000 ∧ m ≤ 31 ∧
  ∀ (l : Addr) (ws : List Str) (H' : Hp), Words ws → ws.length = m → H' l = some (.lst (ws.map V.str)) → Keep p H H' → Pen H' p c ns (n + 14) → Q (.ref l) H'
abbrev nBegun : List Str := ["_law_pen_here", "_law_many", "_law_found", "_law_whole", "_law_some", "_law_k"]
section
variable {P : Program} {w : World} {K : PySem.W.Frag} {mg : Str → Option Value} {base : Heap}
theorem scBegun : FnScope nBegun ["_law_pen_here", "_law_many"] (defScope sBegun) := ⟨rfl, rfl, rfl, by decide +kernel, rfl, by decide +kernel, by decide +kernel⟩
theorem ok_begun {f fD fW : Addr} {fd fdD fdW : FuncData} (F : Fun K "_law_begun" "_law_begun" sBegun f fd) (T : Bi mg) (D : Df K mg "_law_draw" sDraw fD fdD ["_law_pen_here", "_law_many"]) (WO : Df K mg "_law_words" sWords fW fdW ["_law_pen_here", "_law_many"])
    (GW : FnOk P w K mg base CX0 3 fW fdW ["_law_pen_here", "_law_many"] spWords) : FnOk P w K mg base CX0 4 f fd ["_law_pen_here", "_law_many"] spBegun := by
  have GD : FnOk P w K mg base CX0 1 fD fdD ["_law_pen_here", "_law_many"] spDraw := ok_draw D.F T
  refine F.ok scBegun (fun vs H Q E h => ?_) (fun cdv A outer s H vs Q E hr h => ?_)
  · obtain ⟨p, c, ns, n, m, rfl, _⟩ := h
    rfl
  · obtain ⟨p, c, ns, n, m, rfl, hP, hn, hm, k⟩ := h
    have hr2 : Room 3 _ := hr
    have hr0 : Room 1 _ := hr.mono (by decide)
    refine ⟨_, (pss_cons (ps_set (i := 2) scBegun.nd rfl (Or.inl rfl) (pe_call GW hr2 (by rfl) WO.m WO.F.kp WO.b .nil pass0 (pa_cons (pv 0) (pa_cons (pv 1) pa_nil))))
      (pss_cons (ps_if (PW.pt (pw_or (pt_cmpR op_eq (pv 1) pe_int (nomark _)) (pw_or (pt_cmpR op_gt (pv 1) pe_int (nomark _)) (pw_or1 (pt_cmpR op_gt (pe_call GD hr0 (by rfl) D.m D.F.kp D.b .nil pass0 (pa_cons (pv 0) (pa_cons pe_int pa_nil))) pe_int (nomark _))))))
      (pss_one (ps_ret (pv 2)))
      pss_nil)
      (pss_cons (ps_set (i := 3) scBegun.nd rfl (Or.inr rfl) (pe_op op_mul_str (pe_slice sl_str (pe_ix ix_list (pv 2) pe_int (fun _ _ => rfl)) po_none (po_some pe_int)) pe_int))
      (pss_cons (ps_setLc (i := 4) (own := [("_law_k", 5)]) (g := gName 5) (tt := tYes) rfl scBegun.nd rfl rfl (sw_true rfl rfl rfl (by decide +kernel)) (pi_range1 rfl T.range (pa_cons (pv 1) pa_nil)) (blkOk_by (N := nBegun) (sc := defScope sBegun) (by decide +kernel)) (fun _ _ _ _ _ => pg_name (i := 5) scBegun.nd rfl (Or.inl rfl)) (fun _ _ _ _ _ => pts_nil) (fun _ _ _ _ _ => pe_slice sl_str (pv 3) po_none (po_some (pe_op op_add (pv 5) pe_int))))
      (pss_one (ps_ret (pe_ifExp (pt_cmpR op_eq (pe_call GD hr0 (by rfl) D.m D.F.kp D.b .nil pass0 (pa_cons (pv 0) (pa_cons pe_int pa_nil))) pe_int (nomark _)) (pv 4) (pe_revL (pv 4))))))))), ?_⟩
    refine ⟨_, rfl, _, rfl, p, c, ns, n, m, rfl, hP, by omega, hm, fun l ws H1 hw hwl hl k1 P1 => ?_⟩
    have give : ∀ H2 : Hp, Keep p H1 H2 → Pen H2 p c ns (n + 12 + 1) → Q (.ref l) H2 := fun H2 k2 P2 =>
      k l ws H2 hw hwl (k2 l _ hl (P1.strs_ne hl)) (k1.trans k2) (P2.mono (by omega))
    refine ⟨_, rfl, rfl, _, rfl, ite2 (fun h0 => ?_) (fun h0 => ?_)⟩
    · exact ⟨_, rfl, give H1 (Keep.refl _ _) (P1.mono (by omega))⟩
    refine ⟨_, rfl, _, _, rfl, rfl, _, rfl, ite2 (fun h1 => ?_) (fun h1 => ?_)⟩
    · exact ⟨_, rfl, give H1 (Keep.refl _ _) (P1.mono (by omega))⟩
    refine ⟨_, rfl, p, c, ns, n + 12, _, rfl, P1, by omega, by decide, by decide, fun v H2 v0 v1 k2 P2 => ?_⟩
    refine ⟨_, _, rfl, rfl, _, rfl, ite2 (fun h2 => ?_) (fun h2 => ?_)⟩
    · exact ⟨_, rfl, give H2 k2 P2⟩
    have m0 : 0 < m := by
      have : ¬ (V.int (m : Int) = V.int 0) := fun e => h0 (decide_eq_true e)
      rcases Nat.eq_zero_or_pos m with e | e
      · exact absurd (by rw [e]; rfl) this
      · exact e
    have m8 : m ≤ 8 := by
      have : ¬ (8 < (m : Int)) := fun e => h1 (decide_eq_true e)
      omega
    have hl2 := k2 l _ hl (P1.strs_ne hl)
    have k2' := k1.trans k2
    have h00 : ws[0]? = some ws[0] := List.getElem?_eq_getElem (by omega)
    obtain ⟨ch, c1, c2, hcut⟩ := cut_first (hw.vw ws[0] (List.getElem_mem _))
    have hvw := hw.vw ws[0] (List.getElem_mem _)
    refine ⟨_, rfl, l, _, _, _, rfl, rfl, SqL.of hl2, atI_nat (j := 0) (by rw [List.getElem?_map, h00]; rfl), _, rfl, _, rfl, ?_, _, _, rfl, rfl, by decide, by decide, ?_, ?_⟩
    · rw [len_codes]; have := hvw.le; show _ ≤ 16777216; omega
    · rw [hcut]; show 1 ≤ 8; decide
    rw [hcut, mul8]
    refine ⟨_, rfl, _, rfl, by omega, by omega, fun D1 hD1 => ?_⟩
    have hD1H : H D1 = none := k2'.fresh P2 hD1
    have hpD := P2.pne hD1
    have hcD := P2.cne hD1
    refine lc_range (lo := 0) (n := m) (fun i Hc => Hc D1 = some (.lst ((reps ch i).map V.str)) ∧ Keep p H Hc ∧ Pen Hc p c ns (n + 13)) ?_ ?_ ?_
    · exact ⟨upd_same, k2'.new hD1H, (P2.new hD1).mono (by omega)⟩
    · rintro i Hc hi ⟨hD, kc, Pc⟩
      refine ⟨rfl, _, rfl, _, rfl, _, _, rfl, rfl, _, rfl, _, rfl, ?_, _, hD, ?_, ?_, ?_, ?_⟩
      · rw [len_codes, codes_txt, List.length_replicate]; decide
      · rw [List.length_map]; simp [reps]; show _ < 16777216; omega
      · rw [upd_same, cut_rep (by omega), reps_succ, List.map_append]
        rfl
      · exact kc.new hD1H
      · exact Pc.upd' hpD hcD
    · rintro Hj ⟨hD, kj, Pj⟩
      refine ⟨_, rfl, p, c, ns, n + 13, _, rfl, Pj, by omega, by decide, by decide, fun v3 H3 v30 v31 k3 P3 => ?_⟩
      have hD3 := k3 D1 _ hD hpD.symm
      have rl : (reps ch m).length = m := by simp [reps]
      refine ⟨rfl, _, rfl, ite2 (fun hq => ?_) (fun hq => ?_)⟩
      · exact ⟨_, rfl, k D1 _ H3 (words_reps c1 c2 m8) rl hD3 (kj.trans k3) (P3.mono (by omega))⟩
      · refine ⟨_, rfl, D1, _, rfl, SqL.of hD3, fun r hr' => ?_⟩
        refine k r _ _ (words_reps c1 c2 m8).rev (by rw [List.length_reverse]; exact rl) (by rw [upd_same, List.map_reverse]) ((kj.trans k3).new ((kj.trans k3).fresh P3 hr')) ((P3.new hr').mono (by omega))
end
end K2
end
section
set_option Elab.async false
set_option maxRecDepth 100000
set_option linter.all false
namespace K2
open PySem L2
abbrev sMixed : Stmt := top 34
abbrev sRow : Stmt := top 35
abbrev sRows : Stmt := top 36

theorem perm_erase {α : Type} : ∀ (l : List α) (k : Nat) (h : k < l.length), ([l[k]] ++ l.eraseIdx k).Perm l
  | [], k, h => absurd h (Nat.not_lt_zero _)
  | a :: l, 0, h => List.Perm.refl _
  | a :: l, k + 1, h => by
    have ih := perm_erase l k (Nat.lt_of_succ_lt_succ h)
    show (l[k]'(Nat.lt_of_succ_lt_succ h) :: (a :: l.eraseIdx k)).Perm (a :: l)
    exact (List.Perm.swap a _ _).trans (List.Perm.cons a ih)
theorem map_erase {α β : Type} (f : α → β) : ∀ (l : List α) (k : Nat), (l.map f).eraseIdx k = (l.eraseIdx k).map f
  | [], k => by simp
  | a :: l, 0 => rfl
  | a :: l, k + 1 => by
    show f a :: (l.map f).eraseIdx k = f a :: (l.eraseIdx k).map f
    rw [map_erase f l k]
def spMixed : Sp := fun vs H Q _ => ∃ (p c y : Addr) (ns : List Int) (n : Nat) (xs : List Str), vs = [.ref p, .ref y] ∧ Pen H p c ns n ∧ n + 40 ≤ 100000 ∧ H y = some (.lst (xs.map V.str)) ∧ xs.length ≤ 33 ∧
  ∀ (l : Addr) (ys : List Str) (H' : Hp), ys.Perm xs → H' l = some (.lst (ys.map V.str)) → Keep p H H' → Pen H' p c ns (n + xs.length) → Q (.ref l) H'
abbrev nMixed : List Str := ["_law_pen_here", "_law_some", "_law_left", "_law_k"]
section
variable {P : Program} {w : World} {K : PySem.W.Frag} {mg : Str → Option Value} {base : Heap}
theorem scMixed : FnScope nMixed ["_law_pen_here", "_law_some"] (defScope sMixed) := ⟨rfl, rfl, rfl, by decide +kernel, rfl, by decide +kernel, by decide +kernel⟩
theorem mt_popAtR (X : Cx) : MtR X "list.pop" rPopAt := mt_popAt
theorem six {k n : Nat} (h : k < n) : seqIndex? (k : Int) n = some k := by
  unfold seqIndex?
  simp
  omega
theorem ok_mixed {f fD : Addr} {fd fdD : FuncData} (F : Fun K "_law_mixed" "_law_mixed" sMixed f fd) (T : Bi mg) (D : Df K mg "_law_draw" sDraw fD fdD ["_law_pen_here", "_law_many"]) :
    FnOk P w K mg base CX0 2 f fd ["_law_pen_here", "_law_some"] spMixed := by
  have GD : FnOk P w K mg base CX0 1 fD fdD ["_law_pen_here", "_law_many"] spDraw := ok_draw D.F T
  refine F.ok scMixed (fun vs H Q E h => ?_) (fun cdv A outer s H vs Q E hr h => ?_)
  · obtain ⟨p, c, y, ns, n, xs, rfl, _⟩ := h
    rfl
  · obtain ⟨p, c, y, ns, n, xs, rfl, hP, hn, hy, hx, k⟩ := h
    have hr0 : Room 1 _ := hr
    refine ⟨_, (pss_cons (ps_set (i := 2) scMixed.nd rfl (Or.inr rfl) (pe_callTy call_list_of (by rfl) T.list (by decide +kernel) (pa_cons (pv 1) pa_nil)))
      (pss_one (ps_ret (pe_lc (own := [("_law_k", 3)]) (g := gName 3) (tt := tYes) rfl scMixed.nd (pi_range1 rfl T.range (pa_cons (pe_callB call_len_seq (by rfl) T.len PySem.boot_len (pa_cons (pv 2) pa_nil)) pa_nil)) (blkOk_by (N := nMixed) (sc := defScope sMixed) (by decide +kernel)) (fun _ _ _ _ _ => pg_name (i := 3) scMixed.nd rfl (Or.inl rfl)) (fun _ _ _ _ _ => pts_nil) (fun _ _ _ _ _ => pe_bmK (K' := K) rfl PySem.F.plainAttrs_list PySem.F.slot_list_pop PySem.F.type_list_pop (mt_popAtR _) (pv 2) (pa_cons (pe_call GD hr0 (by rfl) D.m D.F.kp D.b .nil pass0 (pa_cons (pv 0) (pa_cons (pe_callB (call_len_seqK (K' := K) rfl) (by rfl) T.len PySem.boot_len (pa_cons (pv 2) pa_nil)) pa_nil))) pa_nil)))))), ?_⟩
    refine ⟨_, rfl, y, _, rfl, .inl (SqL.of hy), fun L hL => ?_⟩
    have hLp := hP.pne hL
    have hLc := hP.cne hL
    refine ⟨_, rfl, L, _, rfl, .inl (SqL.of upd_same), _, rfl, ?_, ?_, fun D1 hD1 => ?_⟩
    · rw [List.length_map]; omega
    · rw [List.length_map]; omega
    have hne : L ≠ D1 := fun e => by rw [← e, upd_same] at hD1; cases hD1
    have hD0 : H D1 = none := by rw [upd_ne hne.symm] at hD1; exact hD1
    have hDp := hP.pne hD0
    have hDc := hP.cne hD0
    refine lc_range (lo := 0) (n := (xs.map V.str).length) (fun i Hc => ∃ acc left : List Str, (acc ++ left).Perm xs ∧ acc.length = i ∧ Hc D1 = some (.lst (acc.map V.str)) ∧ Hc L = some (.lst (left.map V.str)) ∧ Keep p H Hc ∧ Pen Hc p c ns (n + i)) ?_ ?_ ?_
    · exact ⟨[], xs, List.Perm.refl _, rfl, upd_same, by rw [upd_ne hne, upd_same], ((Keep.refl p H).new hL).new hD0, (hP.new hL).new hD1⟩
    · rintro i Hc hi ⟨acc, left, hp, hl, hD, hLh, kc, Pc⟩
      have hlen : acc.length + left.length = xs.length := by rw [← List.length_append]; exact hp.length_eq
      rw [List.length_map] at hi
      refine ⟨rfl, _, rfl, .inl ⟨rfl, _, SqL.of hLh⟩, _, rfl, _, rfl, L, _, rfl, .inl (SqL.of hLh), p, c, ns, n + i, _, rfl, Pc, by omega, ?_, ?_, fun v Hd v0 v1 kd Pd => ?_⟩
      · rw [List.length_map]; omega
      · rw [List.length_map]; omega
      rw [List.length_map] at v1
      obtain ⟨j, rfl⟩ : ∃ j : Nat, v = (j : Int) := ⟨v.toNat, (Int.toNat_of_nonneg v0).symm⟩
      have hj : j < left.length := by omega
      have hLd := kd L _ hLh hLp.symm
      have hDd := kd D1 _ hD hDp.symm
      refine ⟨L, _, _, j, V.str left[j], rfl, rfl, hLd, by omega, by omega, six (by rw [List.length_map]; exact hj), by rw [List.getElem?_map, List.getElem?_eq_getElem hj]; rfl, acc.map V.str, by rw [upd_ne hne.symm]; exact hDd, ?_, acc ++ [left[j]], left.eraseIdx j, ?_, ?_, ?_, ?_, ?_, ?_⟩
      · rw [List.length_map]; show _ < 16777216; omega
      · refine List.Perm.trans ?_ hp
        rw [List.append_assoc]
        exact List.Perm.append_left acc (perm_erase left j hj)
      · rw [List.length_append, hl]; rfl
      · rw [upd_same, List.map_append]; rfl
      · rw [upd_ne hne, upd_same, map_erase]
      · exact ((kc.trans kd).new hL).new hD0
      · exact (Pd.upd' hLp hLc).upd' hDp hDc
    · rintro Hj ⟨acc, left, hp, hl, hD, hLh, kj, Pj⟩
      have hlen : acc.length + left.length = xs.length := by rw [← List.length_append]; exact hp.length_eq
      rw [List.length_map] at hl Pj
      have hn0 : left = [] := List.length_eq_zero_iff.mp (by omega)
      subst hn0
      rw [List.append_nil] at hp
      exact k D1 acc Hj hp hD kj Pj
/-- a row of the heap -/
def rowO (r : Row) : HO := .tup ((r.1 :: r.2).map V.str)
def RowsAt (H : Hp) (ts : List Addr) (rs : List Row) : Prop := ts.length = rs.length ∧ ∀ (i : Nat) (t : Addr) (r : Row), ts[i]? = some t → rs[i]? = some r → H t = some (rowO r)
theorem RowsAt.mono {H H' : Hp} {ts : List Addr} {rs : List Row} (h : RowsAt H ts rs) (k : ∀ b r, H b = some (rowO r) → H' b = some (rowO r)) : RowsAt H' ts rs := ⟨h.1, fun i t r a b => k t r (h.2 i t r a b)⟩
theorem rowsAt_nil (H : Hp) : RowsAt H [] [] := ⟨rfl, fun i t r a => by simp at a⟩
theorem RowsAt.snoc {H : Hp} {ts : List Addr} {rs : List Row} {t : Addr} {r : Row} (h : RowsAt H ts rs) (ht : H t = some (rowO r)) : RowsAt H (ts ++ [t]) (rs ++ [r]) := by
  refine ⟨by simp [h.1], fun i u q a b => ?_⟩
  by_cases hi : i < ts.length
  · rw [List.getElem?_append_left hi] at a
    rw [List.getElem?_append_left (by rw [← h.1]; exact hi)] at b
    exact h.2 i u q a b
  · rw [List.getElem?_append_right (by omega)] at a
    rw [List.getElem?_append_right (by have := h.1; omega)] at b
    have : i - ts.length = 0 := by
      have := (List.getElem?_eq_some_iff.mp a).1
      simpa using this
    rw [this] at a
    rw [← h.1, this] at b
    simp at a b
    subst a b
    exact ht
theorem row_ne_pen {r : Row} {c : Addr} {a l : Int} : rowO r ≠ penO c a l := by
  unfold rowO penO
  intro e
  cases e
theorem Pen.row_ne {H : Hp} {p c q : Addr} {ns : List Int} {n : Nat} {r : Row} (h : Pen H p c ns n) (hq : H q = some (rowO r)) : q ≠ p := fun e => by
  obtain ⟨a, l, g, _⟩ := h.pen
  rw [e, g] at hq
  exact row_ne_pen (Option.some.inj hq).symm
theorem RowsAt.keep {H H' : Hp} {p c : Addr} {ns : List Int} {n : Nat} {ts : List Addr} {rs : List Row} (h : RowsAt H ts rs) (P : Pen H p c ns n) (k : Keep p H H') : RowsAt H' ts rs := h.mono fun b r e => k b _ e (P.row_ne e)
def spRow : Sp := fun vs H Q _ => ∃ (p c y : Addr) (ns : List Int) (n : Nat) (x : Str) (known : List Str), vs = [.ref p, .str x, .ref y] ∧ Pen H p c ns n ∧ n + 50 ≤ 100000 ∧ H y = some (.lst (known.map V.str)) ∧ known.Nodup ∧ 2 ≤ known.length ∧ known.length ≤ 33 ∧
  ∀ (t : Addr) (bs : List Str) (H' : Hp), bs ≠ [] → bs.Nodup → (∀ b ∈ bs, b ∈ known) → H' t = some (rowO (x, bs)) → Keep p H H' → Pen H' p c ns (n + 34) → Q (.ref t) H'
abbrev nRow : List Str := ["_law_pen_here", "_law_word", "_law_known", "_law_many"]
theorem scRow : FnScope nRow ["_law_pen_here", "_law_word", "_law_known"] (defScope sRow) := ⟨rfl, rfl, rfl, by decide +kernel, rfl, by decide +kernel, by decide +kernel⟩
theorem cut_take (ys : List Str) (k : Nat) : cutV (ys.map V.str) none (some (k : Int)) = (ys.take k).map V.str := by
  unfold cutV
  rw [HT.sIx_nat, HT.sIx_none, List.drop_zero, Nat.sub_zero, ← List.map_take]
  congr 1
  rw [List.length_map]
  by_cases h : k ≤ ys.length
  · rw [Nat.min_eq_left h]
  · rw [Nat.min_eq_right (by omega), List.take_of_length_le (by omega), List.take_of_length_le (by omega)]
theorem ok_row {f fP fM : Addr} {fd fdP fdM : FuncData} (F : Fun K "_law_row" "_law_row" sRow f fd) (T : Bi mg) (PK : Df K mg "_law_pick" sPick fP fdP ["_law_pen_here", "_law_some"]) (GP : FnOk P w K mg base CX0 2 fP fdP ["_law_pen_here", "_law_some"] spPick)
    (MI : Df K mg "_law_mixed" sMixed fM fdM ["_law_pen_here", "_law_some"]) (GM : FnOk P w K mg base CX0 2 fM fdM ["_law_pen_here", "_law_some"] spMixed) : FnOk P w K mg base CX0 3 f fd ["_law_pen_here", "_law_word", "_law_known"] spRow := by
  refine F.ok scRow (fun vs H Q E h => ?_) (fun cdv A outer s H vs Q E hr h => ?_)
  · obtain ⟨p, c, y, ns, n, x, known, rfl, _⟩ := h
    rfl
  · obtain ⟨p, c, y, ns, n, x, known, rfl, hP, hn, hy, hnd, h2, h33, k⟩ := h
    have hr1 : Room 2 _ := hr
    refine ⟨_, (pss_cons (ps_set (i := 3) scRow.nd rfl (Or.inl rfl) (pe_call GP hr1 (by rfl) PK.m PK.F.kp PK.b .nil pass0 (pa_cons (pv 0) (pa_cons (pe_lst (pa_cons pe_int (pa_cons pe_int (pa_cons pe_int (pa_cons pe_int (pa_cons pe_int (pa_cons (pe_callB call_len_seq (by rfl) T.len PySem.boot_len (pa_cons (pv 2) pa_nil)) pa_nil))))))) pa_nil))))
      (pss_one (ps_ret (pe_op op_catT (pe_tup (pa_cons (pv 1) pa_nil)) (pe_callTy call_tuple_of (by rfl) T.tuple (by decide +kernel) (pa_cons (pe_slice sl_list (pe_call GM hr1 (by rfl) MI.m MI.F.kp MI.b .nil pass0 (pa_cons (pv 0) (pa_cons (pv 2) pa_nil))) po_none (po_some (pv 3))) pa_nil)))))), ?_⟩
    refine ⟨_, rfl, _, rfl, y, _, rfl, .inl (SqL.of hy), (by show 6 ≤ sizeLine; decide), fun l6 h6 => ?_⟩
    refine ⟨p, c, ns, n, _, _, rfl, hP.new h6, by omega, .inl ⟨l6, rfl, (hP.pne h6).symm, upd_same⟩, by simp, (by show 6 ≤ 1000; decide), fun j v H1 hv k1 P1 => ?_⟩
    obtain ⟨m, rfl, hm⟩ : ∃ m : Nat, v = .int (m : Int) ∧ 1 ≤ m := by
      have hm6 := List.mem_of_getElem? hv
      simp only [List.mem_cons, List.not_mem_nil, or_false] at hm6
      rcases hm6 with rfl | rfl | rfl | rfl | rfl | rfl
      · exact ⟨1, rfl, by omega⟩
      · exact ⟨1, rfl, by omega⟩
      · exact ⟨2, rfl, by omega⟩
      · exact ⟨2, rfl, by omega⟩
      · exact ⟨3, rfl, by omega⟩
      · exact ⟨_, rfl, by rw [List.length_map]; omega⟩
    have k1' : Keep p H H1 := ((Keep.refl p H).new h6).trans k1
    have hy1 := k1' y _ hy (hP.strs_ne hy)
    -- (word,) + tuple(mixed(pen, known)[:many])
    refine ⟨_, rfl, (by show 1 ≤ sizeLine; decide), fun t1 ht1 => ?_⟩
    refine ⟨_, rfl, _, rfl, p, c, y, ns, n + 1, known, rfl, P1.new ht1, by omega, by rw [upd_ne (ne_of_none hy1 ht1)]; exact hy1, h33, fun lm ys H2 hp hlm k2 P2 => ?_⟩
    have k2' : Keep p H H2 := (k1'.new (k1'.fresh P1 ht1)).trans k2
    have ht2 : H2 t1 = some (.tup [.str x]) := k2 t1 _ upd_same (P1.pne ht1).symm
    refine ⟨_, rfl, _, rfl, lm, _, rfl, SqL.of hlm, fun l7 h7 => ?_⟩
    refine ⟨l7, _, rfl, .inl ⟨SqL.of upd_same, fun t3 ht3 => ?_⟩⟩
    have n71 : t1 ≠ l7 := ne_of_none ht2 h7
    have h71 : (upd H2 l7 (.lst (cutV (ys.map V.str) none (some (m : Int))))) t1 = some (.tup [.str x]) := by rw [upd_ne n71]; exact ht2
    have n13 : t1 ≠ t3 := ne_of_none h71 ht3
    have hyl : ys.length = known.length := hp.length_eq
    have hcut := cut_take ys m
    have htn : ys.take m ≠ [] := fun e => by
      have h3 := congrArg List.length e
      rw [List.length_take, List.length_nil] at h3
      omega
    have htl : (ys.take m).length ≤ 33 := by rw [List.length_take]; omega
    rw [hcut] at ht3 ⊢
    refine ⟨t1, t3, [.str x], (ys.take m).map V.str, rfl, rfl, SqT.of (by rw [upd_ne n13, upd_ne n71]; exact ht2), SqT.of upd_same, by simp, ?_, fun e => absurd (List.map_eq_nil_iff.mp e) htn, fun _ t4 ht4 => ?_⟩
    · rw [List.length_map]; show 1 + _ ≤ 16777216; omega
    have f7 : H l7 = none := k2'.fresh P2 h7
    have P7 := P2.new (o := .lst ((ys.take m).map V.str)) h7
    have k7 : Keep p H (upd H2 l7 (.lst ((ys.take m).map V.str))) := k2'.new f7
    have k8 := k7.new (o := .tup ((ys.take m).map V.str)) (k7.fresh P7 ht3)
    have P8 := P7.new (o := .tup ((ys.take m).map V.str)) ht3
    refine k t4 (ys.take m) _ htn ((hp.nodup_iff.mpr hnd).sublist (List.take_sublist _ _)) (fun b hb => hp.mem_iff.mp (List.mem_of_mem_take hb)) upd_same (k8.new (k8.fresh P8 ht4)) ((P8.new ht4).mono (by omega))
abbrev nRows : List Str := ["_law_pen_here", "_law_words_here", "_law_known", "_law_found", "_law_word"]
theorem scRows : FnScope nRows ["_law_pen_here", "_law_words_here"] (defScope sRows) := ⟨rfl, rfl, rfl, by decide +kernel, rfl, by decide +kernel, by decide +kernel⟩
def spRows : Sp := fun vs H Q _ => ∃ (p c y : Addr) (ns : List Int) (n : Nat) (ws : List Str), vs = [.ref p, .ref y] ∧ Pen H p c ns n ∧ n + 2000 ≤ 100000 ∧ H y = some (.lst (ws.map V.str)) ∧ Words ws ∧ ws.length ≤ 31 ∧
  ∀ (l : Addr) (ts : List Addr) (rs : List Row) (H' : Hp), Good rs → rs.map (·.1) = ws → RowsAt H' ts rs → H' l = some (.lst (ts.map V.ref)) → Keep p H H' → Pen H' p c ns (n + 1500) → Q (.ref l) H'
theorem ok_rows {f fR : Addr} {fd fdR : FuncData} (F : Fun K "_law_rows" "_law_rows" sRows f fd) (RO : Df K mg "_law_row" sRow fR fdR ["_law_pen_here", "_law_word", "_law_known"]) (GR : FnOk P w K mg base CX0 3 fR fdR ["_law_pen_here", "_law_word", "_law_known"] spRow) :
    FnOk P w K mg base CX0 4 f fd ["_law_pen_here", "_law_words_here"] spRows := by
  refine F.ok scRows (fun vs H Q E h => ?_) (fun cdv A outer s H vs Q E hr h => ?_)
  · obtain ⟨p, c, y, ns, n, ws, rfl, _⟩ := h
    rfl
  · obtain ⟨p, c, y, ns, n, ws, rfl, hP, hn, hy, hw, h31, k⟩ := h
    have hr2 : Room 3 _ := hr
    refine ⟨_, (pss_cons (ps_set (i := 2) scRows.nd rfl (Or.inl rfl) (pe_lst (pa_cons pe_str (pa_cons pe_str pa_nil))))
      (pss_cons (ps_set (i := 3) scRows.nd rfl (Or.inl rfl) (pe_lst pa_nil))
      (pss_cons (ps_for PassesOwn.never rfl (pi_list (pv 1)) (pg_name (i := 4) scRows.nd rfl (Or.inl rfl))
      (pss_cons (ps_expr (pe_bm PySem.F.plainAttrs_list PySem.F.slot_list_append PySem.F.type_list_append mt_append (pv 3) (pa_cons (pe_call GR hr2 (by rfl) RO.m RO.F.kp RO.b .nil pass0 (pa_cons (pv 0) (pa_cons (pv 4) (pa_cons (pv 2) pa_nil)))) pa_nil)))
        (pss_one (ps_expr (pe_bm PySem.F.plainAttrs_list PySem.F.slot_list_append PySem.F.type_list_append mt_append (pv 2) (pa_cons (pv 4) pa_nil))))))
      (pss_one (ps_ret (pv 3)))))), ?_⟩
    refine ⟨(by show 2 ≤ sizeLine; decide), fun kn hkn => ⟨Nat.zero_le _, fun fl hfl => ?_⟩⟩
    have nkf : kn ≠ fl := fun e => by rw [← e, upd_same] at hfl; cases hfl
    have hfl0 : H fl = none := by rw [upd_ne nkf.symm] at hfl; exact hfl
    have pk := hP.pne hkn
    have ck := hP.cne hkn
    have pf := hP.pne hfl0
    have cf := hP.cne hfl0
    refine ⟨_, rfl, y, rfl, ⟨_, SqL.of (by rw [upd_ne (ne_of_none hy hfl0), upd_ne (ne_of_none hy hkn)]; exact hy)⟩, for_list (K := K) (a := y) (xs := ws.map V.str)
      (fun i σ Hc => ∃ (rs : List Row) (ts : List Addr) (v4 : Option V), σ = [some (.ref p), some (.ref y), some (.ref kn), some (.ref fl), v4] ∧ Good rs ∧ rs.map (·.1) = ws.take i ∧ RowsAt Hc ts rs ∧ Hc kn = some (.lst ((base0 ++ ws.take i).map V.str)) ∧ Hc fl = some (.lst (ts.map V.ref)) ∧ Keep p H Hc ∧ Pen Hc p c ns (n + 34 * i)) ?_ ?_ ?_ ?_⟩
    · refine ⟨[], [], none, rfl, good_nil, rfl, rowsAt_nil _, by rw [upd_ne nkf, upd_same]; rfl, upd_same, ((Keep.refl p H).new hkn).new hfl0, (hP.new hkn).new hfl⟩
    · rintro i σ Hc hi ⟨rs, ts, v4, rfl, g, en, R, hK, hF, kc, Pc⟩
      exact SqL.of (kc y _ hy (hP.strs_ne hy))
    · rintro i x σ Hc hi ⟨rs, ts, v4, rfl, g, en, R, hK, hF, kc, Pc⟩
      have hil : i < ws.length := by
        have := (List.getElem?_eq_some_iff.mp hi).1
        rwa [List.length_map] at this
      have hwi : ws[i]? = some ws[i] := List.getElem?_eq_getElem hil
      rw [List.getElem?_map, hwi] at hi
      cases hi
      have hrl : rs.length = i := by
        have := congrArg List.length en
        rw [List.length_map, List.length_take] at this
        omega
      have hkl : (base0 ++ ws.take i).length = i + 2 := by
        simp [base0, List.length_take]
        omega
      have hnd : (base0 ++ ws.take i).Nodup := by
        have := g.nodup rs.length (Nat.le_refl _)
        unfold knownAt at this
        rw [List.take_length, en] at this
        exact this
      refine ⟨_, rfl, .inl ⟨rfl, _, SqL.of hF⟩, _, rfl, _, rfl, _, rfl, p, c, kn, ns, n + 34 * i, ws[i], base0 ++ ws.take i, rfl, Pc, by omega, hK, hnd, by omega, by omega, fun t bs Hd b1 b2 b3 ht kd Pd => ?_⟩
      have hFd := kd fl _ hF pf.symm
      have hKd := kd kn _ hK pk.symm
      refine ⟨fl, _, _, rfl, rfl, hFd, ?_, ?_⟩
      · rw [List.length_map, R.1, hrl]; show _ < 16777216; omega
      refine ⟨_, rfl, .inl ⟨rfl, _, SqL.of (by rw [upd_ne nkf]; exact hKd)⟩, _, rfl, kn, _, _, rfl, rfl, by rw [upd_ne nkf]; exact hKd, ?_, ?_⟩
      · rw [List.length_map, hkl]; show _ < 16777216; omega
      have etk : ws.take (i + 1) = ws.take i ++ [ws[i]] := by rw [List.take_add_one, hwi]; rfl
      have hnew : ws[i] ∉ base0 ++ ws.take i := by
        intro hm
        rcases List.mem_append.mp hm with hm | hm
        · have := hw.nb ws[i] (List.getElem_mem _)
          unfold base0 at hm
          rcases List.mem_cons.mp hm with e | hm
          · rw [e] at this; exact this err_barred
          · have e : ws[i] = sVac := by simpa using hm
            rw [e] at this; exact this vac_barred
        · have := List.nodup_append.mp (etk ▸ hw.nd.sublist (List.take_sublist (i + 1) ws))
          exact this.2.2 _ hm _ (by simp) rfl
      have hFe : ∀ o o', (upd (upd Hd fl o) kn o') fl = some o := fun o o' => by rw [upd_ne nkf.symm, upd_same]
      have row1 : ∀ b r, Hd b = some (rowO r) → ∀ xs ys, (upd (upd Hd fl (.lst xs)) kn (.lst ys)) b = some (rowO r) := fun b r e xs ys => by
        have h1 : b ≠ fl := ne_of e hFd (by unfold rowO; intro z; cases z)
        have h2 : b ≠ kn := ne_of e hKd (by unfold rowO; intro z; cases z)
        rw [upd_ne h2, upd_ne h1]
        exact e
      refine ⟨rs ++ [(ws[i], bs)], ts ++ [t], _, rfl, good_snoc g (by rw [en]; exact ⟨hw.vw _ (List.getElem_mem _), hnew, b1, b2, b3⟩), by rw [List.map_append, en, etk]; rfl, ?_, ?_, ?_, ?_, ?_⟩
      · exact ((R.keep Pc kd).mono fun b r e => row1 b r e _ _).snoc (row1 t _ ht _ _)
      · rw [upd_same, etk, ← List.append_assoc, List.map_append (l₂ := [ws[i]])]
        rfl
      · rw [hFe, List.map_append]
        rfl
      · exact ((kc.trans kd).new hfl0).new hkn
      · exact ((Pd.upd' pf cf).upd' pk ck).mono (by omega)
    · rintro σ Hc ⟨rs, ts, v4, rfl, g, en, R, hK, hF, kc, Pc⟩
      rw [List.length_map] at en Pc
      rw [List.take_length] at en
      exact ⟨_, rfl, k fl ts rs Hc g en R hF kc (Pc.mono (by omega))⟩
end
end K2
end
section
set_option Elab.async false
set_option maxRecDepth 100000
set_option linter.all false
namespace K2
open PySem L2
theorem _root_.L2.Same.put {H H1 : Hp} {q : Addr} {o : HO} (k : Same H H1) (h : H q = none) : Same H (upd H1 q o) := fun b u hb => by
  rw [upd_ne (ne_of_none hb h)]
  exact k b u hb
theorem Pen.same {H H' : Hp} {p c : Addr} {ns : List Int} {n : Nat} (h : Pen H p c ns n) (k : Same H H') : Pen H' p c ns n := by
  obtain ⟨a, l, g, g1, g2, g3⟩ := h.pen
  exact ⟨⟨a, l, k _ _ g, g1, g2, g3⟩, k _ _ h.cells, h.small⟩
theorem _root_.L2.Same.keep {p : Addr} {H H' : Hp} (k : Same H H') : Keep p H H' := fun b o h _ => k b o h
theorem dget_s {H : Hp} {a : Addr} {kvs : List (Key × V)} {x : Str} {v : V} (e : H a = some (.dK kvs)) (hv : valV kvs (Sum.inr x : Key) = some v) : DGet H a (.str x) (some v) := by
  have := DGet.k (k := (Sum.inr x : Key)) e
  rw [hv] at this
  exact this
theorem cutV_whole {xs : List V} {lo hi : Option Int} (h : HT.sIx xs.length 0 lo = 0 ∧ HT.sIx xs.length xs.length hi = xs.length) : cutV xs lo hi = xs := by
  unfold cutV
  rw [h.1, h.2, List.drop_zero, Nat.sub_zero, List.take_length]
def rSl2 : V → Option Int → Option Int → Hp → VK → Prop := fun x lo hi H Q => ∃ a xs, x = .ref a ∧ H a = some (.tup xs) ∧ ∀ p H1, Same H H1 → H1 p = some (.tup (cutV xs lo hi)) → Q (.ref p) H1
def rCat2 : R2 := fun x y H Q => ∃ a b xs ys, x = .ref a ∧ y = .ref b ∧ H a = some (.tup xs) ∧ H b = some (.tup ys) ∧ xs.length + ys.length ≤ sizeLine ∧ ∀ p H1, Same H H1 → H1 p = some (.tup (xs ++ ys)) → Q (.ref p) H1
section
variable {X : Cx}
theorem sl_tup2 : SlR X rSl2 := by
  intro pins s σ H x v vl vu lo hi sl Q I rx hs pl pu h
  obtain ⟨a, xs, rfl, ha, q⟩ := h
  exact sl_tupA pins s σ H _ v vl vu lo hi sl Q I rx hs pl pu ⟨a, xs, rfl, SqT.of ha, fun hw => q a H (Same.refl H) (by rw [cutV_whole hw]; exact ha), fun _ p hp => q p _ ((Same.refl H).put hp) upd_same⟩
theorem op_cat2 : OpR X (binaryOp .Add) rCat2 := by
  intro pins s σ H x y v u Q I rx ry h
  obtain ⟨a, b, xs, ys, rfl, rfl, ha, hb, hz, q⟩ := h
  refine op_catA pins s σ H _ _ v u Q I rx ry ⟨a, b, xs, ys, rfl, rfl, SqT.of ha, SqT.of hb, hz, fun e => q b H (Same.refl H) (by rw [e]; exact hb), fun _ e => q a H (Same.refl H) (by rw [e, List.append_nil]; exact ha), fun _ _ p hp => q p _ ((Same.refl H).put hp) upd_same⟩
end
end K2
end
section
set_option Elab.async false
set_option maxRecDepth 100000
set_option linter.all false
namespace K2
open PySem L2
def HasI (kvs : List (Key × V)) (xs : List Str) : Prop := ∀ x ∈ xs, ∃ z : Int, valV kvs (Sum.inr x : Key) = some (.int z)
theorem HasI.put {kvs : List (Key × V)} {xs : List Str} (h : HasI kvs xs) (x : Str) (z : Int) : HasI (putK kvs (Sum.inr x : Key) (.int z)) (xs ++ [x]) := by
  intro y hy
  rw [valV_put]
  by_cases e : (Sum.inr y : Key) = Sum.inr x
  · rw [if_pos e]; exact ⟨z, rfl⟩
  · rw [if_neg e]
    rcases List.mem_append.mp hy with hy | hy
    · exact h y hy
    · have : y = x := by simpa using hy
      exact absurd (by rw [this]) e
def ways0 : List (Key × V) := mergeK [] [(Sum.inr (Str.ofString "error"), V.int 1), (Sum.inr (Str.ofString "vacant"), V.int 2)]
theorem ways0_has : HasI ways0 base0 := by
  intro x hx
  unfold base0 at hx
  rcases List.mem_cons.mp hx with rfl | hx
  · exact ⟨1, by decide +kernel⟩
  · have : x = sVac := by simpa using hx
    subst this
    exact ⟨2, by decide +kernel⟩
theorem ways0_len : ways0.length ≤ 2 := by decide +kernel
theorem putK_le (c : List (Key × V)) (k : Key) (x : V) : (putK c k x).length ≤ c.length + 1 := by
  unfold putK
  split
  · rw [List.length_map]; omega
  · rw [List.length_append]; simp
theorem cut2 (x b : Str) (bs : List Str) : cutV ((x :: b :: bs).map V.str) none (some 2) = [x, b].map V.str := by
  have := cut_take (x :: b :: bs) 2
  exact this
theorem cut2' (x b : Str) (bs : List Str) : cutV ((x :: b :: bs).map V.str) (some 2) none = bs.map V.str := by
  unfold cutV
  rw [show (2 : Int) = ((2 : Nat) : Int) from rfl, HT.sIx_nat, HT.sIx_none, List.length_map]
  have : min 2 (x :: b :: bs).length = 2 := by simp
  rw [this]
  show (bs.map V.str).take ((x :: b :: bs).length - 2) = bs.map V.str
  rw [List.take_of_length_le (by simp)]
theorem sub_snoc {bs ks : List Str} {j : Nat} {b : Str} (h : ks.Sublist (bs.take j)) (hb : bs[j]? = some b) : (ks ++ [b]).Sublist (bs.take (j + 1)) := by
  rw [List.take_add_one, hb]
  exact h.append (List.Sublist.refl _)
end K2
end
section
set_option Elab.async false
set_option maxRecDepth 100000
set_option linter.all false
namespace K2
open PySem L2
abbrev sUppers : Stmt := top 38
abbrev nUppers : List Str := ["_law_rows_here", "_law_found", "_law_row_here", "_law_mine", "_law_base", "_law_one"]
/-- a dict of the heap from names to objects that hold lists of names -/
inductive Tab (f : List Str → HO) (H : Hp) : List (Key × V) → Tb → Prop where
  | nil : Tab f H [] []
  | cons {x : Str} {us : List Str} {a : Addr} {kvs : List (Key × V)} {t : Tb} : H a = some (f us) → Tab f H kvs t → Tab f H ((Sum.inr x, .ref a) :: kvs) ((x, us) :: t)
theorem Tab.snoc {f : List Str → HO} {H : Hp} {kvs : List (Key × V)} {t : Tb} (h : Tab f H kvs t) {x : Str} {us : List Str} {a : Addr} (ha : H a = some (f us)) : Tab f H (kvs ++ [(Sum.inr x, .ref a)]) (t ++ [(x, us)]) := by
  induction h with
  | nil => exact .cons ha .nil
  | cons h1 _ ih => exact .cons h1 ih
theorem Tab.mono {f : List Str → HO} {H H' : Hp} {kvs : List (Key × V)} {t : Tb} (h : Tab f H kvs t) (k : ∀ a us, H a = some (f us) → H' a = some (f us)) : Tab f H' kvs t := by
  induction h with
  | nil => exact .nil
  | cons h1 _ ih => exact .cons (k _ _ h1) ih
theorem Tab.len {f : List Str → HO} {H : Hp} {kvs : List (Key × V)} {t : Tb} (h : Tab f H kvs t) : kvs.length = t.length := by
  induction h with
  | nil => rfl
  | cons _ _ ih => rw [List.length_cons, List.length_cons, ih]
theorem valV_cons (k : Key) (v : V) (kvs : List (Key × V)) (j : Key) : valV ((k, v) :: kvs) j = if k = j then some v else valV kvs j := by
  unfold valV
  rw [List.find?_cons]
  by_cases e : k = j
  · simp [e]
  · simp [e]
theorem Tab.val {f : List Str → HO} {H : Hp} {kvs : List (Key × V)} {t : Tb} (h : Tab f H kvs t) {x : Str} (hx : x ∈ keys t) : ∃ a, valV kvs (Sum.inr x : Key) = some (.ref a) ∧ H a = some (f (look t x)) := by
  induction h with
  | nil => simp [keys] at hx
  | @cons y us a kvs t h1 _ ih =>
    rw [valV_cons]
    by_cases e : y = x
    · subst e
      exact ⟨a, by rw [if_pos rfl], by simp only [look, if_true]; exact h1⟩
    · have e2 : ¬ (Sum.inr y : Key) = Sum.inr x := fun q => e (Sum.inr.inj q)
      rw [if_neg e2]
      simp only [look, if_neg e]
      refine ih ?_
      unfold keys at hx ⊢
      rcases List.mem_cons.mp hx with q | q
      · exact absurd q.symm e
      · exact q
theorem Tab.none {f : List Str → HO} {H : Hp} {kvs : List (Key × V)} {t : Tb} (h : Tab f H kvs t) {x : Str} (hx : x ∉ keys t) : valV kvs (Sum.inr x : Key) = none := by
  induction h with
  | nil => rfl
  | @cons y us a kvs t h1 _ ih =>
    rw [valV_cons]
    have e : ¬ y = x := fun q => hx (by rw [q]; simp [keys])
    have e2 : ¬ (Sum.inr y : Key) = Sum.inr x := fun q => e (Sum.inr.inj q)
    rw [if_neg e2]
    exact ih fun q => hx (by unfold keys at q ⊢; exact List.mem_cons_of_mem _ q)
theorem Tab.keys_eq {f : List Str → HO} {H : Hp} {kvs : List (Key × V)} {t : Tb} (h : Tab f H kvs t) : kvs.map (·.1) = (keys t).map Sum.inr := by
  induction h with
  | nil => rfl
  | cons _ _ ih =>
    rw [List.map_cons, ih]
    rfl
theorem merge2 (v1 v2 : V) : mergeK [] [((Sum.inr (Str.ofString "error") : Key), v1), ((Sum.inr (Str.ofString "vacant") : Key), v2)] = [((Sum.inr (Str.ofString "error") : Key), v1), ((Sum.inr (Str.ofString "vacant") : Key), v2)] := by
  show putK (putK [] (Sum.inr (Str.ofString "error") : Key) v1) (Sum.inr (Str.ofString "vacant") : Key) v2 = _
  rw [putK_new v1 rfl, putK_new v2 (by
    rw [List.nil_append, valV_cons, if_neg (by decide +kernel)]
    rfl)]
  rfl
def fL (us : List Str) : HO := .lst (us.map V.str)
def spUppers : Sp := fun vs H Q _ => ∃ (l : Addr) (ts : List Addr) (rs : List Row), vs = [.ref l] ∧ H l = some (.lst (ts.map V.ref)) ∧ RowsAt H ts rs ∧ Good rs ∧ rs.length ≤ 31 ∧
  ∀ (d : Addr) (kvs : List (Key × V)) (H' : Hp), H d = none → H' d = some (.dK kvs) → Tab fL H' kvs (ups rs) → Same H H' → Q (.ref d) H'
theorem cut1' (x : Str) (bs : List Str) : cutV ((x :: bs).map V.str) (some 1) none = bs.map V.str := by
  unfold cutV
  rw [show (1 : Int) = ((1 : Nat) : Int) from rfl, HT.sIx_nat, HT.sIx_none, List.length_map]
  have : min 1 (x :: bs).length = 1 := by simp
  rw [this]
  show (bs.map V.str).take ((x :: bs).length - 1) = bs.map V.str
  rw [List.take_of_length_le (by simp)]
theorem lineL_take {t : Tb} {m bs : List Str} {j : Nat} {b : Str} (h : bs[j]? = some b) : lineL t m (bs.take (j + 1)) = mergeU (lineL t m (bs.take j)) (look t b) := by
  unfold lineL
  rw [List.take_add_one, h]
  simp
/-- how long a line may be -/
theorem line_len {t : Tb} (T : TOk t) {x : Str} {bs : List Str} (h : ∀ b ∈ bs, b ∈ keys t) : (lineL t [x] bs).length ≤ (keys t).length + 1 := by
  obtain ⟨h1, h2, _⟩ := lineL_ok T (x := x) bs [x] h (by simp) (by simp)
  have := h1.length_le_of_subset (l₂ := x :: keys t) fun u hu => by
    rcases h2 u hu with rfl | q
    · simp
    · exact List.mem_cons_of_mem _ q
  simpa using this
section
variable {P : Program} {w : World} {K : PySem.W.Frag} {mg : Str → Option Value} {base : Heap}
theorem scUppers : FnScope nUppers ["_law_rows_here"] (defScope sUppers) := ⟨rfl, rfl, rfl, by decide +kernel, rfl, by decide +kernel, by decide +kernel⟩
theorem ok_uppers {f : Addr} {fd : FuncData} (F : Fun K "_law_uppers" "_law_uppers" sUppers f fd) : FnOk P w K mg base CX0 1 f fd ["_law_rows_here"] spUppers := by
  refine F.ok scUppers (fun vs H Q E h => ?_) (fun cdv A outer s H vs Q E hr h => ?_)
  · obtain ⟨l, ts, rs, rfl, _⟩ := h
    rfl
  · obtain ⟨l, ts, rs, rfl, hl, R, g, h31, k⟩ := h
    have hu := hu_of hr
    refine ⟨_, (pss_cons (ps_set (i := 1) scUppers.nd rfl (Or.inl rfl) (pe_disp (pps_cons pe_str (pe_lst (pa_cons pe_str pa_nil)) (pps_cons pe_str (pe_lst (pa_cons pe_str (pa_cons pe_str pa_nil))) pps_nil)) (by rfl) (by rfl) (fun z => by cases z) (by decide)))
      (pss_cons (ps_for PassesOwn.never rfl (pi_list (pv 0)) (pg_name (i := 2) scUppers.nd rfl (Or.inl rfl))
      (pss_cons (ps_set (i := 3) scUppers.nd rfl (Or.inr rfl) (pe_lst (pa_cons (pe_ix ix_tup (pv 2) pe_int (fun _ _ => rfl)) pa_nil)))
        (pss_cons (ps_for PassesOwn.never rfl (pi_tup (pe_slice sl_tup2 (pv 2) (po_some pe_int) po_none)) (pg_name (i := 4) scUppers.nd rfl (Or.inl rfl))
        (pss_one (ps_set (i := 3) scUppers.nd rfl (Or.inr rfl) (pe_op op_cat (pv 3) (pe_lc (own := [("_law_one", 5)]) (g := gName 5)  rfl scUppers.nd (pi_list (pe_dget hu (pv 1) (pv 4) (fun _ _ => rfl))) (blkOk_by (N := nUppers) (sc := defScope sUppers) (by decide +kernel)) (fun _ _ _ _ _ => pg_name (i := 5) scUppers.nd rfl (Or.inl rfl)) (fun _ _ _ _ _ => pts_one (pt_cmpR (op_notIn_seqK (K' := K) rfl) (pv 5) (pv 3) rfl)) (fun _ _ _ _ _ => pv 5))))))
        (pss_one (ps_dput hu (pv 1) (pe_ix ix_tup (pv 2) pe_int (fun _ _ => rfl)) (pv 3) rfl)))))
      (pss_one (ps_ret (pv 1))))), ?_⟩
    refine fun d hd => ⟨(by show 1 ≤ sizeLine; decide), fun a1 ha1 => ⟨(by show 2 ≤ sizeLine; decide), fun a2 ha2 => ?_⟩⟩
    have hda : d ≠ a1 := fun e => by rw [← e, upd_same] at ha1; cases ha1
    have h1d : (upd (upd H d (.dK [])) a1 (.lst [V.str (Str.ofString "error")])) d = some (.dK []) := by rw [upd_ne hda, upd_same]
    have hdb : d ≠ a2 := ne_of_none h1d ha2
    have hab : a1 ≠ a2 := fun e => by rw [← e, upd_same] at ha2; cases ha2
    have ha1H : H a1 = none := by rw [upd_ne hda.symm] at ha1; exact ha1
    have ha2H : H a2 = none := by rw [upd_ne hab.symm, upd_ne hdb.symm] at ha2; exact ha2
    refine ⟨by rw [upd_ne hdb]; exact h1d, [(Sum.inr (Str.ofString "error"), V.ref a1), (Sum.inr (Str.ofString "vacant"), V.ref a2)], rfl, (by show 2 ≤ 15; decide), ?_⟩
    rw [merge2]
    have sm0 : Same H (upd (upd (upd (upd H d (.dK [])) a1 (.lst [V.str (Str.ofString "error")])) a2 (.lst [V.str (Str.ofString "vacant"), V.str (Str.ofString "error")])) d (.dK [((Sum.inr (Str.ofString "error") : Key), V.ref a1), ((Sum.inr (Str.ofString "vacant") : Key), V.ref a2)])) :=
      ((((Same.refl H).put hd).put ha1H).put ha2H).put hd
    have hd0 : (upd (upd (upd (upd H d (.dK [])) a1 (.lst [V.str (Str.ofString "error")])) a2 (.lst [V.str (Str.ofString "vacant"), V.str (Str.ofString "error")])) d (.dK [((Sum.inr (Str.ofString "error") : Key), V.ref a1), ((Sum.inr (Str.ofString "vacant") : Key), V.ref a2)])) d = some (.dK [((Sum.inr (Str.ofString "error") : Key), V.ref a1), ((Sum.inr (Str.ofString "vacant") : Key), V.ref a2)]) := upd_same
    have T0 : Tab fL (upd (upd (upd (upd H d (.dK [])) a1 (.lst [V.str (Str.ofString "error")])) a2 (.lst [V.str (Str.ofString "vacant"), V.str (Str.ofString "error")])) d (.dK [((Sum.inr (Str.ofString "error") : Key), V.ref a1), ((Sum.inr (Str.ofString "vacant") : Key), V.ref a2)])) [((Sum.inr (Str.ofString "error") : Key), V.ref a1), ((Sum.inr (Str.ofString "vacant") : Key), V.ref a2)] t0 :=
      .cons (by rw [upd_ne hda.symm, upd_ne hab, upd_same]; rfl) (.cons (by rw [upd_ne hdb.symm, upd_same]; rfl) .nil)
    generalize upd (upd (upd (upd H d (.dK [])) a1 (.lst [V.str (Str.ofString "error")])) a2 (.lst [V.str (Str.ofString "vacant"), V.str (Str.ofString "error")])) d (.dK [((Sum.inr (Str.ofString "error") : Key), V.ref a1), ((Sum.inr (Str.ofString "vacant") : Key), V.ref a2)]) = H0 at sm0 hd0 T0 ⊢
    refine ⟨_, rfl, l, rfl, ⟨_, SqL.of (sm0 l _ hl)⟩, for_list (K := K) (a := l) (xs := ts.map V.ref)
      (fun i σ Hc => ∃ (kvs : List (Key × V)) (v2 v3 v4 v5 : Option V), σ = [some (.ref l), some (.ref d), v2, v3, v4, v5] ∧ Hc d = some (.dK kvs) ∧ Tab fL Hc kvs (ups (rs.take i)) ∧ Same H Hc) ?_ ?_ ?_ ?_⟩
    · exact ⟨_, _, _, _, _, rfl, hd0, T0, sm0⟩
    · rintro i σ Hc hi ⟨kvs, v2, v3, v4, v5, rfl, _, _, sm⟩
      exact SqL.of (sm l _ hl)
    · rintro i x σ Hc hi ⟨kvs, v2, v3, v4, v5, rfl, hD, TB, sm⟩
      have hil : i < rs.length := by
        have := (List.getElem?_eq_some_iff.mp hi).1
        rw [List.length_map, R.1] at this
        exact this
      have hti : ts[i]? = some (ts[i]'(by rw [R.1]; exact hil)) := List.getElem?_eq_getElem _
      rw [List.getElem?_map, hti] at hi
      generalize ts[i]'(by rw [R.1]; exact hil) = t at hti hi
      cases hi
      have hri : rs[i]? = some rs[i] := List.getElem?_eq_getElem hil
      have ht := sm t _ (R.2 i t _ hti hri)
      have RO := g i _ hri
      have TO := tok_ups g i (Nat.le_of_lt hil)
      have hks := keys_ups_take rs i
      have hus := ups_succ hri
      have hkl := knownAt_len (Nat.le_of_lt hil)
      generalize rs[i] = r at hri ht RO hus
      rw [← hks] at RO hkl
      generalize ups (rs.take i) = tb at TB TO hks hus RO hkl
      obtain ⟨x, bs⟩ := r
      unfold rowO at ht
      have hll := fun j => line_len TO (x := x) (bs := bs.take j) fun b hb => RO.sub b (List.mem_of_mem_take hb)
      refine ⟨_, rfl, t, _, _, _, rfl, rfl, SqT.of ht, atI_nat (j := 0) rfl, (by show 1 ≤ sizeLine; decide), fun m0 hm0 => ?_⟩
      have hdm : d ≠ m0 := ne_of_none hD hm0
      refine ⟨_, rfl, _, rfl, t, _, rfl, by rw [upd_ne (ne_of_none ht hm0)]; exact ht, fun rp H2 s2 hrp => ?_⟩
      rw [cut1'] at hrp
      have s0 : Same Hc H2 := ((Same.refl Hc).put hm0).trans s2
      have hm2 : H2 m0 = some (fL [x]) := s2 m0 _ upd_same
      refine ⟨rp, rfl, ⟨_, SqT.of hrp⟩, for_tup (K := K) (a := rp) (xs := bs.map V.str)
        (fun j σ Hd => ∃ (m : Addr) (v4 v5 : Option V), σ = [some (.ref l), some (.ref d), some (.ref t), some (.ref m), v4, v5] ∧ Same H2 Hd ∧ Hd m = some (fL (lineL tb [x] (bs.take j)))) ?_ ?_ ?_ ?_⟩
      · exact ⟨m0, _, _, rfl, Same.refl _, hm2⟩
      · rintro j σ Hd _ ⟨m, v4, v5, rfl, sd, _⟩
        exact SqT.of (sd rp _ hrp)
      · rintro j y σ Hd hj ⟨m, v4, v5, rfl, sd, hm⟩
        have hjl : j < bs.length := by
          have := (List.getElem?_eq_some_iff.mp hj).1
          rwa [List.length_map] at this
        have hbj : bs[j]? = some bs[j] := List.getElem?_eq_getElem hjl
        rw [List.getElem?_map, hbj] at hj
        cases hj
        obtain ⟨u, hu1, hu2⟩ := TB.val (RO.sub bs[j] (List.getElem_mem hjl))
        have hDd := sd d _ (s0 d _ hD)
        have hud := sd u _ (s0 u _ hu2)
        unfold fL at hud hm
        have husl : (look tb bs[j]).length ≤ (keys tb).length := by
          have q := TO.line (RO.sub bs[j] (List.getElem_mem hjl))
          exact q.1.length_le_of_subset q.2.2.2
        have hsucc := lineL_take (t := tb) (m := [x]) hbj
        have hl1 := hll j
        have hl2 := hll (j + 1)
        rw [hsucc] at hl2
        generalize lineL tb [x] (bs.take j) = mine at hm hsucc hl1 hl2
        generalize look tb bs[j] = us at hud hsucc hl2 husl
        refine ⟨_, rfl, _, rfl, _, rfl, d, _, rfl, dget_s hDd hu1, u, rfl, ⟨_, SqL.of hud⟩, fun D1 hD1 => ?_⟩
        refine lc_list (K := K) (a := u) (xs := us.map V.str) (fun i Hx => Hx D1 = some (fL ((us.take i).filter fun z => decide (z ∉ mine))) ∧ Same Hd Hx) ?_ ?_ ?_ ?_
        · exact ⟨upd_same, (Same.refl Hd).put hD1⟩
        · rintro i2 Hx _ ⟨_, sx⟩
          exact SqL.of (sx u _ hud)
        · rintro i2 y Hx hy ⟨hx, sx⟩
          have hi2 : i2 < us.length := by
            have := (List.getElem?_eq_some_iff.mp hy).1
            rwa [List.length_map] at this
          have hui : us[i2]? = some us[i2] := List.getElem?_eq_getElem hi2
          rw [List.getElem?_map, hui] at hy
          cases hy
          have et : us.take (i2 + 1) = us.take i2 ++ [us[i2]] := by rw [List.take_add_one, hui]; rfl
          refine ⟨rfl, _, rfl, _, rfl, m, _, rfl, .inl (SqL.of (sx m _ hm)), rfl, flat_strs _, _, rfl, ?_⟩
          rw [if_pos rfl, inV_strs]
          dsimp only
          have hfl : ((us.take i2).filter fun z => decide (z ∉ mine)).length ≤ us.length := Nat.le_trans (List.length_filter_le _ _) (by rw [List.length_take]; omega)
          by_cases hb : us[i2] ∈ mine
          · rw [if_neg (by simp [hb])]
            refine ⟨?_, sx⟩
            rw [et, List.filter_append, List.filter_cons]
            simp only [hb, not_true_eq_false, decide_false, Bool.false_eq_true, if_false, List.filter_nil, List.append_nil]
            exact hx
          · rw [if_pos (by simp [hb])]
            refine ⟨_, rfl, _, hx, ?_, ?_, sx.put hD1⟩
            · rw [List.length_map]; show _ < 16777216; omega
            · rw [upd_same, et, List.filter_append, List.filter_cons]
              simp only [hb, not_false_eq_true, decide_true, if_true, List.filter_nil]
              unfold fL
              rw [List.map_append]
              rfl
        · rintro Hx ⟨hx, sx⟩
          rw [List.length_map, List.take_length] at hx
          unfold fL at hx
          refine ⟨m, D1, _, _, rfl, rfl, sx m _ hm, hx, ?_, fun m2 hm2 => ?_⟩
          · rw [List.length_map, List.length_map, ← List.length_append]
            show (mergeU mine us).length ≤ 16777216
            omega
          · refine ⟨m2, _, _, rfl, (sd.trans sx).put ((sd.trans sx).free hm2), ?_⟩
            rw [upd_same, hsucc]
            unfold fL mergeU
            rw [List.map_append]
      · rintro σ Hd ⟨m, v4, v5, rfl, sd, hm⟩
        rw [List.length_map, List.take_length] at hm
        have hDd := sd d _ (s0 d _ hD)
        have htd := sd t _ (s0 t _ ht)
        have hxn : x ∉ keys tb := RO.new
        refine ⟨_, rfl, _, rfl, _, rfl, t, _, _, _, rfl, rfl, SqT.of htd, atI_nat (j := 0) rfl, d, _, rfl, DPut.k (k := Sum.inr x) hDd ?_, ?_⟩
        · rw [TB.len]; have : tb.length = (keys tb).length := by simp [keys]
          show _ < 16777216
          omega
        rw [putK_new _ (TB.none hxn)]
        have rk : ∀ (o : HO) (q : Addr) (us : List Str), Hd q = some (fL us) → (upd Hd d o) q = some (fL us) := fun o q us hq => by
          rw [upd_ne (ne_of hq hDd (by unfold fL; intro z; cases z))]
          exact hq
        refine ⟨_, _, _, _, _, rfl, upd_same, ?_, ?_⟩
        · rw [hus]
          exact ((TB.mono fun a us hq => rk _ a us ((s0.trans sd) a _ hq))).snoc (rk _ m _ hm)
        · exact (sm.trans (s0.trans sd)).put hd
    · rintro σ Hc ⟨kvs, v2, v3, v4, v5, rfl, hD, TB, sm⟩
      rw [List.length_map, R.1, List.take_length] at TB
      exact ⟨_, rfl, k d kvs Hc hd hD TB sm⟩
end
end K2
end
section
set_option Elab.async false
set_option maxRecDepth 100000
set_option linter.all false
namespace K2
open PySem PySem.Spec PyProof.Rows L2
section
variable {p : Program} {w : World} {A : Around} {Z : Result → Shared → Prop} {it : Addr} {f g : List Addr} {Gs : Array GenState → Array GenState → Prop} {N : Nat} {Yv : Nat → Value → Prop} {Sv : Nat → Shared → Prop}
/-- a set that takes in unlike texts, one after the other -/
theorem set_takes (Wk : WalksS p w A.in1 it f g Gs N Yv Sv) {a : Addr} (af : a ∉ f) {xs : List Str} (lx : xs.length = N) (un : xs.Nodup) (few : N ≤ 1000) (val : ∀ j v, Yv j v → ∃ t, v = .str (xs.getD j Str.empty) t) :
    ∀ (m j : Nat) (s : Shared), N - j = m → j ≤ N → Sv j s → s.heap.SetOf (strKind p w) a (fun y => decide (y ∈ xs.take j)) j → (∀ z, Moved (a :: g) Gs s z → z.heap.SetOf (strKind p w) a (fun y => decide (y ∈ xs)) N → Z (.ok (.ret .none)) z) →
      codeAny (model p w) A (.builtin "set.update.loop" ⟨[.ref a, .ref it], []⟩) Z s := by
  have ag : a ∉ g := fun q => af (Wk.sub _ q)
  have up : ∀ b ∈ g, b ∈ a :: g := fun b q => List.mem_cons_of_mem _ q
  have here : ∀ {s z : Shared} {T : Str → Bool} {c : Nat}, Moved g Gs s z → s.heap.SetOf (strKind p w) a T c → z.heap.SetOf (strKind p w) a T c := fun mv q => by
    obtain ⟨o, es, ep, tb, ho, rest⟩ := q
    exact ⟨o, es, ep, tb, mv.heap a _ ag ho, rest⟩
  intro m
  induction m with
  | zero =>
    intro j s hm hj st se fin
    obtain rfl : j = N := by omega
    refine codeAny_builtin F.entry_set_update_loop (by
      rw [Around.under_plainId F.plain_set_update_loop _]
      refine wpAny_bind (Wk.done s _ _ st fun z mv => wpAny_pure (fin z (mv.mono up) ?_))
      rw [← lx, List.take_length] at se
      rw [← lx]
      exact here mv se)
  | succ m ih =>
    intro j s hm hj st se fin
    have jl : j < N := by omega
    have xj : xs[j]? = some (xs.getD j Str.empty) := by
      rw [List.getD_eq_getElem?_getD, List.getElem?_eq_getElem (by omega)]
      rfl
    generalize xs.getD j Str.empty = x at xj
    refine codeAny_builtin F.entry_set_update_loop (by
      rw [Around.under_plainId F.plain_set_update_loop _]
      refine wpAny_bind (Wk.item j s _ _ jl st fun v z hv st2 mv => ?_)
      obtain ⟨t, ev⟩ := val j v hv
      have ex : xs.getD j Str.empty = x := by rw [List.getD_eq_getElem?_getD, xj]; rfl
      rw [ex] at ev
      subst ev
      have fresh : decide (x ∈ xs.take j) = false := by
        rw [decide_eq_false_iff_not]
        intro q
        obtain ⟨i, hi⟩ := List.getElem?_of_mem q
        rw [List.getElem?_take] at hi
        split at hi
        · rename_i lt
          have := (List.getElem?_inj (i := i) (by omega) un).mp (hi.trans xj.symm)
          omega
        · cases hi
      have se' := here mv se
      refine wpAny_bind (wpAny_holding (by
        unfold setAdd
        refine wpAny_holding (wpAny_bind ((strKind p w).pyHash (k := x) (strKind_is _ _ _ _) (wpAny_setAddHashed_of (knd := strKind p w) (s := { z with toks := z.toks + 1 }) (strKind_is _ _ _ _) rfl se' (by unfold scanBound; omega) fun h2 sb se2 => ?_)))
        have se3 : h2.SetOf (strKind p w) a (fun y => decide (y ∈ xs.take (j + 1))) (j + 1) := SetOf_congr se2 (fun y => by
          rw [List.take_add_one, xj]
          simp [List.mem_append]) (by rw [fresh]; rfl)
        refine wpAny_pure ⟨plainId_quiet F.plain_set_update_loop _, ih (j + 1) _ (by omega) jl (Wk.frame _ z _ _ st2 (Nat.le_succ _) fun b hb o e => ?_) se3 fun y mv2 se4 => fin y (Moved.trans Wk.gtrans ((mv.mono up).then_heap (Nat.le_succ _) fun b o hb e => ?_) mv2) se4⟩
        · rw [sb.2 b fun q : b = a => af (q ▸ hb)]; exact e
        · rw [sb.2 b fun q : b = a => hb (q ▸ List.mem_cons_self)]; exact e)))
end
section
variable {p : Program} {w : World} {A : Around} {E : Value → Shared → Prop} {s : Shared}
def emptySet (b : Bool) : Obj := { cls := .type "set", dict := none, data := .set #[] 0 (.fresh 0 0 b) }
set_option maxHeartbeats 3200000 in
/-- set(t) of a tuple of unlike texts has as many items -/
theorem set_of_tup {l : Addr} {its : Array Value} {xs : List Str} {Q : Value → Shared → Prop} (hh : A.handled = none) (hl : s.heap.IsTuple l its) (hi : StrsAre its.toList xs) (un : xs.Nodup) (few : xs.length ≤ 1000)
    (fin : ∀ (h' : Heap) (tk : Nat), h'.SetOf (strKind p w) s.heap.objs.size (fun y => decide (y ∈ xs)) xs.length → (∀ b o, b < s.heap.objs.size → s.heap.get? b = some o → h'.get? b = some o) → Q (.ref s.heap.objs.size) { s with heap := h', toks := tk }) :
    wpAny (model p w) A (call (.type "set") [.ref l]) Q E s := by
  have sz : its.size = xs.length := by rw [← Array.length_toList, StrsAre.len_eq hi]
  obtain ⟨c, tl, hmro⟩ := F.called_set.mro
  have m1 := F.called_set.made
  have m2 := F.called_set.sub
  refine wpAny_call (codeAny_of_tree (wpAny_pure ⟨Code.quiet_builtin _ (by decide +kernel), codeAny_builtin F.entry_type_call (by
    rw [Around.under_plain (weight_type_call_type "set" [.ref l] []) rfl]
    have m3 := F.called_set.notType
    have m4 := F.called_set.canCreate
    have m5 := F.typeCall_set_1 (.ref l)
    repeat (any_goals (first | assumption | wp_step))
    refine codeAny_mono (code_set_new_1 (.ref l) (E := E) (Q₁ := fun v z => ∃ b : Bool, v = .ref s.heap.objs.size ∧ z = { s with heap := s.heap.push (emptySet b) }) fun b => ⟨b, rfl, rfl⟩) fun r z hr => ?_
    cases r with
    | error e => exact hr
    | ok fl =>
      cases fl with
      | next => exact hr.elim
      | brk => exact hr.elim
      | cont => exact hr.elim
      | ret v =>
        obtain ⟨led, rfl, rfl⟩ := hr
        have hS : (s.heap.push (emptySet led)).get? s.heap.objs.size = some (emptySet led) := Heap.get?_push_size _ rfl
        have hT : Shared.TypeIs { s with heap := s.heap.push (emptySet led) } (.ref s.heap.objs.size) "set" := ⟨_, hS, rfl⟩
        have n1 := F.called_set.init.lookup
        have n2 := F.called_set.init.bind (.ref s.heap.objs.size)
        repeat (any_goals (first | assumption | wp_step))
        refine codeAny_mono (codeAny_call_builtin (R := wants (fun r z => r = .none ∧ ∃ h' tk, z = { s with heap := h', toks := tk } ∧ h'.SetOf (strKind p w) s.heap.objs.size (fun y => decide (y ∈ xs)) xs.length ∧ (∀ b o, b < s.heap.objs.size → s.heap.get? b = some o → h'.get? b = some o)) E) F.called_set.init.plain F.entry_set_init (check_set_init_1 hT ?_)) fun r2 z2 hr2 => ?_
        · obtain ⟨⟨tc, td, tdata, tsl⟩, ho, hc, tn, hd⟩ := hl
          simp only at hc hd
          subst hc hd
          have ho2 : (s.heap.push (emptySet led)).get? l = some { cls := .type "tuple", dict := td, data := .seq its tn, slots := tsl } := Heap.get?_push_of_some _ ho
          have q1 := F.sub_tuple_set
          have q2 := F.sub_tuple_frozenset
          have q3 : (Value.type "tuple" == Value.type "dict") = false := by decide
          have tup : (s.heap.push (emptySet led)).IsTuple l its := ⟨_, ho2, rfl, tn, rfl⟩
          have lS : l < s.heap.objs.size := Heap.lt_size ho
          have pz : (s.heap.push (emptySet led)).objs.size = s.heap.objs.size + 1 := Heap.size_push ..
          unfold Builtin.«set.__init__» noKeywords Builtin.Frozenset.updateFrom
          generalize hPI : pyIter = PI
          unfold emptySet at *
          wp_walk
          subst hPI
          refine wpAny_pyIter_tuple tup (wpAny_bind (wpAny_runValue ?_))
          have hn3 : A.in1.in1.in1.handled = none := by simp [hh]
          have vals : ∀ (j : Nat) (v : Value), its[j]? = some v → ∃ t, v = .str (xs.getD j Str.empty) t := fun j v hv => SS.strs_at hi j v (by rw [Array.getElem?_toList]; exact hv)
          refine set_takes ((Walks.tuple hn3 _ l (by rw [Heap.size_push]; exact Nat.ne_of_lt (Nat.lt_succ_of_lt lS)) its).toS) (a := s.heap.objs.size) (by
            simp only [List.mem_cons, List.not_mem_nil, or_false, not_or]
            exact ⟨by rw [Heap.size_push]; exact (Nat.succ_ne_self _).symm, Nat.ne_of_gt lS⟩) sz.symm un (by omega) vals (its.size - 0) 0 _ (by omega) (Nat.zero_le _) ⟨⟨_, Heap.get?_push_size _ rfl, rfl, rfl⟩, tup.push _⟩ ?_ ?_
          · exact SetOf_congr ((setObjOf_fresh (knd := strKind p w) led).setOf (Heap.get?_push_of_some _ hS) (by decide)) (fun _ => by simp) rfl
          · rintro ⟨h', g', d', tk', os'⟩ mv se
            obtain rfl : g' = s.gens := mv.gens
            obtain rfl : d' = s.drawn := mv.drawn
            obtain rfl : os' = s.os := mv.os
            refine wpAny_pure (wpAny_pure ⟨rfl, h', tk', rfl, by rw [← sz]; exact se, fun b o hb e => mv.heap b o ?_ (Heap.get?_push_of_some _ (Heap.get?_push_of_some _ e))⟩)
            simp only [List.mem_cons, List.not_mem_nil, or_false, not_or]
            exact ⟨Nat.ne_of_lt hb, by rw [Heap.size_push]; exact Nat.ne_of_lt (Nat.lt_succ_of_lt hb)⟩
        · cases r2 with
          | error e => exact hr2
          | ok f2 =>
            cases f2 with
            | next => exact hr2.elim
            | brk => exact hr2.elim
            | cont => exact hr2.elim
            | ret v =>
              obtain ⟨rfl, h', tk, rfl, se, kp⟩ := hr2
              repeat (any_goals (first | assumption | wp_step))
              exact fin _ _ se kp)⟩))
end
end K2
end
section
set_option Elab.async false
set_option maxRecDepth 100000
set_option linter.all false
namespace K2
open PySem L2
abbrev sIsW : Stmt := top 18
abbrev sAreW : Stmt := top 19
/-- the module's constants -/
structure Gb (K : PySem.W.Frag) (mg : Str → Option Value) (aR : Addr) (t1 t2 : Tok) : Prop where
  long : mg "LONGEST" = some (.int 8 t1)
  most : mg "MOST_ROWS" = some (.int 30 t2)
  res : mg "RESERVED" = some (.ref aR)
  resT : ∀ H : Hp, SqT K H aR (resd.map V.str)
theorem uni : ∀ k, k < 26 → Unicode.isAlpha (97 + k) = true ∧ Unicode.isLower (97 + k) = true ∧ Unicode.isUpper (97 + k) = false ∧ Unicode.isTitle (97 + k) = false := by decide +kernel
theorem uni' {c : Nat} (h : 97 ≤ c ∧ c ≤ 122) : Unicode.isAlpha c = true ∧ Unicode.isLower c = true ∧ Unicode.isUpper c = false ∧ Unicode.isTitle c = false := by
  have := uni (c - 97) (by omega)
  rw [show 97 + (c - 97) = c by omega] at this
  exact this
theorem vw_ascii {x : Str} (h : VW x) : Txt.isascii x = true := by
  unfold Txt.isascii
  rw [← Array.all_toList, List.all_eq_true]
  intro c hc
  have := h.low c hc
  simp
  omega
theorem vw_alpha {x : Str} (h : VW x) : Txt.isalpha x = true := by
  unfold Txt.isalpha
  have hl : x.length > 0 := by
    rw [len_codes]
    exact List.length_pos_iff.mpr h.ne
  rw [← Array.all_toList, decide_eq_true hl, Bool.true_and, List.all_eq_true]
  intro c hc
  exact (uni' (h.low c hc)).1
theorem vw_lower {x : Str} (h : VW x) : Txt.islower x = true := by
  unfold Txt.islower
  rw [← Array.any_toList, ← Array.any_toList, Bool.and_eq_true]
  refine ⟨?_, ?_⟩
  · rw [List.any_eq_true]
    obtain ⟨c, r, e⟩ := List.exists_cons_of_ne_nil h.ne
    have hc : c ∈ x.cps.toList := by
      show c ∈ codes x
      rw [e]
      simp
    exact ⟨c, hc, (uni' (h.low c hc)).2.1⟩
  · rw [Bool.not_eq_true', List.any_eq_false]
    intro c hc
    have := uni' (h.low c hc)
    rw [this.2.2.1, this.2.2.2]
    decide
def spIsW : Sp := fun vs H Q _ => ∃ x : Str, vs = [.str x] ∧ VW x ∧ Q (.bl true) H
def spAreW : Sp := fun vs H Q _ => ∃ (t : Addr) (xs : List Str), vs = [.ref t] ∧ H t = some (.tup (xs.map V.str)) ∧ (∀ x ∈ xs, VW x) ∧ xs.length ≤ 100 ∧ ∀ H', Same H H' → Q (.bl true) H'
abbrev nAreW : List Str := ["xs", "x"]
section
variable {P : Program} {w : World} {K : PySem.W.Frag} {mg : Str → Option Value} {base : Heap}
theorem scIsW : FnScope ["x"] ["x"] (defScope sIsW) := ⟨rfl, rfl, rfl, by decide +kernel, rfl, by decide +kernel, by decide +kernel⟩
theorem ok_isw {f aR : Addr} {t1 t2 : Tok} {fd : FuncData} (F : Fun K "is_word" "is_word" sIsW f fd) (T : Bi mg) (G : Gb K mg aR t1 t2) : FnOk P w K mg base CX0 1 f fd ["x"] spIsW := by
  refine F.ok scIsW (fun vs H Q E h => ?_) (fun cdv A outer s H vs Q E hr h => ?_)
  · obtain ⟨x, rfl, _⟩ := h
    rfl
  · obtain ⟨x, rfl, hx, k⟩ := h
    refine ⟨_, (pss_cons (ps_if (PW.pt (pw_or (pt_not (pt_val (pe_callB call_isi (by rfl) T.isinstance (by decide +kernel) (pa_cons (pv 0) (pa_cons (pe_bltn (v := .ty "str") (by rfl) T.str (by decide +kernel) rfl) pa_nil))))) (pw_or1 (pt_cmpR op_gt (pe_callB call_len_str (by rfl) T.len PySem.boot_len (pa_cons (pv 0) pa_nil)) (pe_glob (v := .int 8) rfl G.long ⟨_, rfl⟩) (nomark _)))))
      (pss_one (ps_ret pe_bl))
      pss_nil)
      (pss_one (ps_ret (pe_and (pe_m0 PySem.F.slot_str_isascii PySem.F.type_str_isascii mt_isascii (pv 0)) (pe_and (pe_m0 PySem.F.slot_str_isalpha PySem.F.type_str_isalpha mt_isalpha (pv 0)) (pe_and (pe_m0 PySem.F.slot_str_islower PySem.F.type_str_islower mt_islower (pv 0)) (pe_one (pe_cmpR op_notIn_seq (pv 0) (pe_glob (v := .ref aR) rfl G.res rfl) rfl)))))))), ?_⟩
    have hl : x.length ≤ 8 := by rw [len_codes]; exact hx.le
    refine ⟨_, rfl, _, _, _, _, true, rfl, .ty _, .base (.str _), kit_ty (by decide +kernel), _, rfl, ?_⟩
    refine ⟨_, rfl, _, rfl, Nat.le_trans hl (by decide), _, _, rfl, rfl, _, rfl, ite2 (fun h8 => ?_) (fun _ => ?_)⟩
    · have := of_decide_eq_true h8
      omega
    refine ⟨_, rfl, ⟨_, rfl⟩, _, rfl, rfl, trivial, _, rfl, ?_⟩
    rw [vw_ascii hx]
    refine iteT ⟨_, rfl, ⟨_, rfl⟩, _, rfl, rfl, trivial, _, rfl, ?_⟩
    rw [vw_alpha hx]
    refine iteT ⟨_, rfl, ⟨_, rfl⟩, _, rfl, rfl, trivial, _, rfl, ?_⟩
    rw [vw_lower hx]
    refine iteT ⟨_, rfl, aR, _, rfl, .inr (G.resT H), rfl, flat_strs _, ?_⟩
    rw [if_pos rfl, inV_strs, decide_eq_false hx.nr]
    exact k
theorem scAreW : FnScope nAreW ["xs"] (defScope sAreW) := ⟨rfl, rfl, rfl, by decide +kernel, rfl, by decide +kernel, by decide +kernel⟩
theorem ok_arew {f fI : Addr} {fd fdI : FuncData} (F : Fun K "are_words" "are_words" sAreW f fd) (T : Bi mg) (IW : Df K mg "is_word" sIsW fI fdI ["x"]) (GI : FnOk P w K mg base CX0 1 fI fdI ["x"] spIsW) : FnOk P w K mg base CX0 2 f fd ["xs"] spAreW := by
  refine F.ok scAreW (fun vs H Q E h => ?_) (fun cdv A outer s H vs Q E hr h => ?_)
  · obtain ⟨t, xs, rfl, _⟩ := h
    rfl
  · obtain ⟨t, xs, rfl, ht, hx, hl, k⟩ := h
    have hr0 : Room 1 _ := hr
    refine ⟨_, (pss_one (ps_ret (pe_callB (cr_all rfl) (by rfl) T.all (by decide +kernel) (pa_cons (pe_lc (own := [("x", 1)]) (g := gName 1) (tt := tYes) rfl scAreW.nd (pi_tup (pv 0)) (blkOk_by (N := nAreW) (sc := defScope sAreW) (by decide +kernel)) (fun _ _ _ _ _ => pg_name (i := 1) scAreW.nd rfl (Or.inl rfl)) (fun _ _ _ _ _ => pts_nil) (fun _ _ _ _ _ => pe_call GI hr0 (by rfl) IW.m IW.F.kp IW.b .nil pass0 (pa_cons (pv 1) pa_nil))) pa_nil)))), ?_⟩
    refine ⟨_, rfl, t, rfl, ⟨_, SqT.of ht⟩, fun D hD => ?_⟩
    refine lc_tup (K := K) (a := t) (xs := xs.map V.str) (fun i Hc => Hc D = some (.lst ((List.replicate i true).map V.bl)) ∧ Same H Hc) ?_ ?_ ?_ ?_
    · exact ⟨upd_same, (Same.refl H).put hD⟩
    · rintro i Hc _ ⟨_, sm⟩
      exact SqT.of (sm t _ ht)
    · rintro i y Hc hy ⟨h1, sm⟩
      obtain ⟨x, hxm, rfl⟩ := List.mem_map.mp (List.mem_of_getElem? hy)
      have hil : i < xs.length := by
        have := (List.getElem?_eq_some_iff.mp hy).1
        rwa [List.length_map] at this
      refine ⟨rfl, _, rfl, x, rfl, hx x hxm, _, h1, ?_, ?_, sm.put hD⟩
      · rw [List.length_map, List.length_replicate]; show _ < 16777216; omega
      · rw [upd_same, List.replicate_succ', List.map_append]
        rfl
    · rintro Hc ⟨h1, sm⟩
      refine ⟨D, _, rfl, SqL.of h1, ?_⟩
      have : (List.replicate (xs.map V.str).length true).all id = true := by simp
      rw [this]
      exact k Hc sm
end
end K2
end
section
set_option Elab.async false
set_option maxRecDepth 100000
set_option linter.all false
namespace K2
open PySem L2
abbrev sAreD : Stmt := top 20
abbrev sFault : Stmt := top 25
abbrev sLine : Stmt := top 26
abbrev nLine : List Str := ["row", "lines", "line", "base", "name"]
abbrev nFault : List Str := ["row", "k", "lines", "bases", "base"]
/-- a dict of True for each name -/
def dkeys (us : List Str) : List (Key × V) := us.map fun u => ((Sum.inr u : Key), V.bl true)
def fD (us : List Str) : HO := .dK (dkeys us)
theorem dkeys_val (us : List Str) (x : Str) : valV (dkeys us) (Sum.inr x : Key) = if x ∈ us then some (.bl true) else none := by
  induction us with
  | nil => rfl
  | cons u us ih =>
    show valV (((Sum.inr u : Key), V.bl true) :: dkeys us) (Sum.inr x : Key) = _
    rw [valV_cons, ih]
    by_cases e : u = x
    · subst e; simp
    · have e2 : ¬ (Sum.inr u : Key) = Sum.inr x := fun q => e (Sum.inr.inj q)
      have e3 : ¬ x = u := fun q => e q.symm
      simp [e2, e3]
theorem dkeys_put (us : List Str) (x : Str) : putK (dkeys us) (Sum.inr x : Key) (.bl true) = dkeys (insK us x) := by
  unfold insK
  by_cases h : x ∈ us
  · rw [if_pos h]
    unfold putK
    rw [valV_any, dkeys_val, if_pos h]
    show (dkeys us).map _ = dkeys us
    unfold dkeys
    rw [List.map_map]
    apply List.map_congr_left
    intro u _
    show (if (Sum.inr u : Key) = Sum.inr x then _ else _) = _
    split <;> rfl
  · rw [if_neg h, putK_new _ (by rw [dkeys_val, if_neg h])]
    unfold dkeys
    rw [List.map_append]
    rfl
theorem dkeys_len (us : List Str) : (dkeys us).length = us.length := by simp [dkeys]
theorem insK_foldl_len (us m : List Str) : (us.foldl insK m).length ≤ m.length + us.length := by
  induction us generalizing m with
  | nil => simp
  | cons u us ih =>
    rw [List.foldl_cons]
    have := ih (insK m u)
    have h2 : (insK m u).length ≤ m.length + 1 := by
      unfold insK
      split
      · omega
      · simp
    rw [List.length_cons]
    omega
theorem merge1 (x : Str) (v : V) : mergeK [] [((Sum.inr x : Key), v)] = [((Sum.inr x : Key), v)] := by
  show putK [] (Sum.inr x : Key) v = _
  rw [putK_new v rfl]
  rfl
def spAreD : Sp := fun vs H Q _ => ∃ (t : Addr) (xs : List Str), vs = [.ref t] ∧ H t = some (.tup (xs.map V.str)) ∧ xs.Nodup ∧ xs.length ≤ 1000 ∧ Q (.bl true) H
def spLine : Sp := fun vs H Q _ => ∃ (t d : Addr) (r : Row) (kvs : List (Key × V)) (tb : Tb), vs = [.ref t, .ref d] ∧ H t = some (rowO r) ∧ H d = some (.dK kvs) ∧ Tab fD H kvs tb ∧ TOk tb ∧ RowOk (keys tb) r ∧ tb.length ≤ 40 ∧
  ∀ (m : Addr) (H' : Hp), H m = none → H' m = some (fD (lineOf tb r)) → Same H H' → Q (.ref m) H'
def spFault : Sp := fun vs H Q _ => ∃ (t d : Addr) (k : Nat) (r : Row) (kvs : List (Key × V)) (tb : Tb), vs = [.ref t, .int k, .ref d] ∧ k < 30 ∧ H t = some (rowO r) ∧ H d = some (.dK kvs) ∧ Tab fD H kvs tb ∧ TOk tb ∧ RowOk (keys tb) r ∧ (∀ x ∈ r.2, VW x) ∧ tb.length ≤ 40 ∧
  ∀ (H' : Hp), Same H H' → Q .non H'
section
variable {P : Program} {w : World} {K : PySem.W.Frag} {mg : Str → Option Value} {base : Heap}
theorem scLine : FnScope nLine ["row", "lines"] (defScope sLine) := ⟨rfl, rfl, rfl, by decide +kernel, rfl, by decide +kernel, by decide +kernel⟩
theorem scFault : FnScope nFault ["row", "k", "lines"] (defScope sFault) := ⟨rfl, rfl, rfl, by decide +kernel, rfl, by decide +kernel, by decide +kernel⟩
theorem ok_line {f : Addr} {fd : FuncData} (F : Fun K "_line" "_line" sLine f fd) : FnOk P w K mg base CX0 1 f fd ["row", "lines"] spLine := by
  refine F.ok scLine (fun vs H Q E h => ?_) (fun cdv A outer s H vs Q E hr h => ?_)
  · obtain ⟨t, d, r, kvs, tb, rfl, _⟩ := h
    rfl
  · obtain ⟨t, d, ⟨x, bs⟩, kvs, tb, rfl, ht, hd, TB, TO, RO, h40, k⟩ := h
    have hu := hu_of hr
    refine ⟨_, (pss_cons (ps_set (i := 2) scLine.nd rfl (Or.inl rfl) (pe_disp (pps_cons (pe_ix ix_tup (pv 0) pe_int (fun _ _ => rfl)) pe_bl pps_nil) (by rfl) (by rfl) (fun z => by cases z) (by decide)))
      (pss_cons (ps_for PassesOwn.never rfl (pi_tup (pe_slice sl_tup2 (pv 0) (po_some pe_int) po_none)) (pg_name (i := 3) scLine.nd rfl (Or.inl rfl))
      (pss_one (ps_lock (ps_for PassesOwn.never rfl (pi_keys (pe_dget hu (pv 1) (pv 3) (fun _ _ => rfl))) (pg_name (i := 4) scLine.nd rfl (Or.inl rfl))
        (pss_one (ps_dput hu (pv 2) (pv 4) pe_bl rfl))))))
      (pss_one (ps_ret (pv 2))))), ?_⟩
    have htl : tb.length = (keys tb).length := by simp [keys]
    have hll := fun j => line_len TO (x := x) (bs := bs.take j) fun b hb => RO.sub b (List.mem_of_mem_take hb)
    unfold rowO at ht
    refine fun m hm => ⟨_, rfl, t, _, _, _, rfl, rfl, SqT.of (by rw [upd_ne (ne_of_none ht hm)]; exact ht), atI_nat (j := 0) rfl, upd_same, [((Sum.inr x : Key), V.bl true)], rfl, (by show 1 ≤ 15; decide), ?_⟩
    rw [merge1, upd_upd]
    have sm : Same H (upd H m (.dK [((Sum.inr x : Key), V.bl true)])) := (Same.refl H).put hm
    have hm1 : (upd H m (.dK [((Sum.inr x : Key), V.bl true)])) m = some (fD [x]) := upd_same
    generalize upd H m (.dK [((Sum.inr x : Key), V.bl true)]) = H1 at sm hm1 ⊢
    refine ⟨_, rfl, _, rfl, t, _, rfl, sm t _ ht, fun rp H2 s2 hrp => ?_⟩
    rw [cut1'] at hrp
    refine ⟨rp, rfl, ⟨_, SqT.of hrp⟩, for_tup (K := K) (a := rp) (xs := bs.map V.str)
      (fun j σ Hd => ∃ (v3 v4 : Option V), σ = [some (.ref t), some (.ref d), some (.ref m), v3, v4] ∧ Same H Hd ∧ Hd rp = some (.tup (bs.map V.str)) ∧ Hd m = some (fD (lineL tb [x] (bs.take j)))) ?_ ?_ ?_ ?_⟩
    · exact ⟨_, _, rfl, sm.trans s2, hrp, s2 m _ hm1⟩
    · rintro j σ Hd _ ⟨v3, v4, rfl, _, hr2, _⟩
      exact SqT.of hr2
    · rintro j y σ Hd hj ⟨v3, v4, rfl, sd, hr2, hmd⟩
      have hjl : j < bs.length := by
        have := (List.getElem?_eq_some_iff.mp hj).1
        rwa [List.length_map] at this
      have hbj : bs[j]? = some bs[j] := List.getElem?_eq_getElem hjl
      rw [List.getElem?_map, hbj] at hj
      cases hj
      obtain ⟨u, hu1, hu2⟩ := TB.val (RO.sub bs[j] (List.getElem_mem hjl))
      have q := TO.line (RO.sub bs[j] (List.getElem_mem hjl))
      have husl : (look tb bs[j]).length ≤ (keys tb).length := q.1.length_le_of_subset q.2.2.2
      have hun := q.1
      have hsucc := lineL_take (t := tb) (m := [x]) hbj
      have hl1 := hll j
      have hmu : u ≠ m := ne_of_none hu2 hm
      have hud := sd u _ hu2
      have hdd := sd d _ hd
      generalize look tb bs[j] = us at hu2 hud hsucc husl hun
      generalize lineL tb [x] (bs.take j) = mine at hmd hsucc hl1
      -- for name in lines[base]: the dict at u is locked
      refine ⟨u, fD us, hud, True.intro, fun od => ?_⟩
      have hmf : m ≠ u := hmu.symm
      have hget : ∀ hq : Hp, (∀ b, b ≠ u → b ≠ m → hq b = Hd b) → (d = u → hq u = some (.frz od (fD us))) → True := fun _ _ _ => trivial
      have hD2 : DGet (upd Hd u (.frz od (fD us))) d (.str bs[j]) (some (.ref u)) := by
        by_cases e : d = u
        · subst e
          rw [hdd] at hud
          have e2 := Option.some.inj hud
          refine .inl ⟨kvs, Sum.inr bs[j], .inr ⟨od, ?_⟩, rfl, hu1.symm⟩
          rw [upd_same, e2]
        · exact dget_s (by rw [upd_ne e]; exact hdd) hu1
      refine ⟨_, rfl, _, rfl, d, _, rfl, hD2, u, od, rfl, .inl ⟨dkeys us, upd_same, for_it walk_keys
        (fun i σ Hx => ∃ v4 : Option V, σ = [some (.ref t), some (.ref d), some (.ref m), some (.str bs[j]), v4] ∧ Hx u = some (.frz od (fD us)) ∧ Hx m = some (fD ((us.take i).foldl insK mine)) ∧ ∀ b o, Hd b = some o → b ≠ m → b ≠ u → Hx b = some o) ?_ ?_ ?_ ?_⟩⟩
      · exact ⟨_, rfl, upd_same, by rw [upd_ne hmf]; exact hmd, fun b o hb _ h2 => by rw [upd_ne h2]; exact hb⟩
      · rintro i σ Hx _ ⟨v4, rfl, hx, _, _⟩
        exact hx
      · rintro i y σ Hx Hy hi ⟨v4, rfl, hx, hmx, kx⟩ ⟨rfl, kk, vv, hkv, rfl⟩
        rw [dkeys_len] at hi
        have hui : us[i]? = some us[i] := List.getElem?_eq_getElem hi
        unfold dkeys at hkv
        rw [List.getElem?_map, hui] at hkv
        cases hkv
        have hfl := insK_foldl_len (us.take i) mine
        rw [List.length_take] at hfl
        refine ⟨_, rfl, _, rfl, m, _, rfl, DPut.k (k := Sum.inr us[i]) hmx ?_, ?_⟩
        · rw [dkeys_len]; show _ < 16777216; omega
        · refine ⟨_, rfl, by rw [upd_ne hmu]; exact hx, ?_, fun b o hb h1 h2 => by rw [upd_ne h1]; exact kx b o hb h1 h2⟩
          have et : us.take (i + 1) = us.take i ++ [us[i]] := by rw [List.take_add_one, hui]; rfl
          rw [upd_same, dkeys_put, et, List.foldl_append]
          rfl
      · rintro σ Hx ⟨v4, rfl, hx, hmx, kx⟩
        rw [dkeys_len, List.take_length, foldl_insK _ _ hun] at hmx
        have back : ∀ b o, Hd b = some o → b ≠ m → (upd Hx u (fD us)) b = some o := fun b o hb h1 => by
          by_cases e : b = u
          · subst e
            rw [hud] at hb
            rw [upd_same]
            exact hb
          · rw [upd_ne e]
            exact kx b o hb h1 e
        refine ⟨hx, _, _, rfl, fun b o hb => back b o (sd b o hb) (ne_of_none hb hm), back rp _ hr2 ?_, ?_⟩
        · exact ne_of hr2 hmd (by unfold fD; intro z; cases z)
        · rw [upd_ne hmf, hmx, hsucc]
    · rintro σ Hd ⟨v3, v4, rfl, sd, hr2, hmd⟩
      rw [List.length_map, List.take_length] at hmd
      exact ⟨_, rfl, k m Hd hm hmd sd⟩
end
end K2
end
section
set_option Elab.async false
set_option maxRecDepth 100000
set_option linter.all false
namespace K2
open PySem PySem.Spec PyProof.Rows L2
def tLenSetT (ta : TE) : TE := fun σ H Q => ta σ H fun x H1 => ∃ (l : Addr) (xs : List Str), x = .ref l ∧ H1 l = some (.tup (xs.map V.str)) ∧ xs.Nodup ∧ xs.length ≤ 1000 ∧ Q (.int (xs.length : Nat)) H1
section
variable {X : Cx}
/-- len(set(t)), t a tuple of unlike texts -/
theorem pe_lenSetT {a : Expr} {ta : TE} {p1 p2 p3 pos : Pos} (h1 : Gl X "len") (h2 : X.mg "len" = none) (h3 : Gl X "set") (h4 : X.mg "set" = none) (ha : PE X a ta) (hc : X.calm = true := by rfl)
    (na : starEach [a] X.env = (false, eval a X.env) :: starEach [] X.env := by rfl) : PE X (.Call (.Name "len" p1) [.Call (.Name "set" p2) [a] [] p3] [] pos) (tLenSetT ta) := by
  refine ⟨fun pins s σ H Q I h => Call_ (ld_blt I h1 h2 boot_len (callWith_builtin1 (args_cons (Call_ (ld_blt I h3 h4 boot_set (callWith_type1 (args_cons (thn (ha.run pins s σ H _ I h) fun v s1 ⟨x, H1, I1, r1, q1⟩ => args_nil ?_) na) na rfl))) rfl) rfl rfl))⟩
  obtain ⟨l, xs, rfl, ht, un, few, q⟩ := q1
  cases r1
  obtain ⟨its, r, pl, _⟩ := I1.tuple (SqT.of ht)
  refine set_of_tup (I1.ok.hd hc) pl (by simpa using strsAre_of r) un few fun h' tk hS hk => args_nil ?_
  obtain ⟨o, es, ep, t, ho, hex, hd, _, _, _, hf, hn⟩ := hS
  have I2 : Inv X pins σ H1 { s1 with heap := h', toks := tk } := I1.kept fun b o e => hk b o (Heap.lt_size e) e
  exact call_len_set ho hex hd hf (by rw [hn]; omega) ⟨.int xs.length, H1, I2.tok _, ⟨_, by rw [hn]⟩, q⟩
end
section
variable {P : Program} {w : World} {K : PySem.W.Frag} {mg : Str → Option Value} {base : Heap}
theorem scAreD : FnScope ["words"] ["words"] (defScope sAreD) := ⟨rfl, rfl, rfl, by decide +kernel, rfl, by decide +kernel, by decide +kernel⟩
theorem ok_ared {f : Addr} {fd : FuncData} (F : Fun K "are_different" "are_different" sAreD f fd) (T : Bi mg) : FnOk P w K mg base CX0 1 f fd ["words"] spAreD := by
  refine F.ok scAreD (fun vs H Q E h => ?_) (fun cdv A outer s H vs Q E hr h => ?_)
  · obtain ⟨t, xs, rfl, _⟩ := h
    rfl
  · obtain ⟨t, xs, rfl, ht, un, few, k⟩ := h
    refine ⟨_, pss_one (ps_ret (pe_cmpR op_eq (pe_lenSetT (by rfl) T.len (by rfl) T.set (pv 0)) (pe_callB call_len_seq (by rfl) T.len PySem.boot_len (pa_cons (pv 0) pa_nil)) (nomark _))), ?_⟩
    refine ⟨_, rfl, t, xs, rfl, ht, un, few, _, rfl, t, _, rfl, .inr (SqT.of ht), rfl, ?_⟩
    rw [List.length_map, decide_eq_true rfl]
    exact k
end
end K2
end
section
set_option Elab.async false
set_option maxRecDepth 100000
set_option linter.all false
namespace K2
open PySem L2
section
variable {P : Program} {w : World} {K : PySem.W.Frag} {mg : Str → Option Value} {base : Heap}
theorem ok_fault {f fA fF aR : Addr} {fd fdA fdF : FuncData} {t1 t2 : Tok} (F : Fun K "_fault" "_fault" sFault f fd) (T : Bi mg) (G : Gb K mg aR t1 t2) (AW : Df K mg "are_words" sAreW fA fdA ["xs"]) (GA : FnOk P w K mg base CX0 2 fA fdA ["xs"] spAreW)
    (AD : Df K mg "are_different" sAreD fF fdF ["words"]) (GF : FnOk P w K mg base CX0 1 fF fdF ["words"] spAreD) : FnOk P w K mg base CX0 3 f fd ["row", "k", "lines"] spFault := by
  refine F.ok scFault (fun vs H Q E h => ?_) (fun cdv A outer s H vs Q E hr h => ?_)
  · obtain ⟨t, d, k, r, kvs, tb, rfl, _⟩ := h
    rfl
  · obtain ⟨t, d, n, ⟨x, bs⟩, kvs, tb, rfl, hn, ht, hd, TB, TO, RO, hvw, h40, k⟩ := h
    have hu := hu_of hr
    have hr2 : Room 2 _ := hr
    have hr1 : Room 1 _ := hr.mono (by decide)
    refine ⟨_, (pss_cons (ps_if (pt_cmpR op_eq (pv 1) (pe_glob (v := .int 30) rfl G.most ⟨_, rfl⟩) (nomark _))
      (pss_one (ps_ret pe_str))
      pss_nil)
      (pss_cons (ps_if (PW.pt (pw_or (pt_not (pt_val (pe_callB call_isi (by rfl) T.isinstance (by decide +kernel) (pa_cons (pv 0) (pa_cons (pe_bltn (v := .ty "tuple") (by rfl) T.tuple (by decide +kernel) rfl) pa_nil))))) (pw_or (pt_cmpR op_lt (pe_callB call_len_seq (by rfl) T.len PySem.boot_len (pa_cons (pv 0) pa_nil)) pe_int (nomark _)) (pw_or1 (pt_not (pt_val (pe_call GA hr2 (by rfl) AW.m AW.F.kp AW.b .nil pass0 (pa_cons (pv 0) pa_nil))))))))
      (pss_one (ps_ret pe_str))
      pss_nil)
      (pss_cons (ps_if (pt_cmp (pc_din hu (pe_ix ix_tup (pv 0) pe_int (fun _ _ => rfl)) (pv 2)))
      (pss_one (ps_ret pe_str))
      pss_nil)
      (pss_cons (ps_set (i := 3) scFault.nd rfl (Or.inl rfl) (pe_slice sl_tup2 (pv 0) (po_some pe_int) po_none))
      (pss_cons (ps_if (PW.pt (pw_or (pt_not (pt_val (pe_callB (cr_all rfl) (by rfl) T.all (by decide +kernel) (pa_cons (pe_lc (own := [("base", 4)]) (g := gName 4) (tt := tYes) rfl scFault.nd (pi_tup (pv 3)) (blkOk_by (N := nFault) (sc := defScope sFault) (by decide +kernel)) (fun _ _ _ _ _ => pg_name (i := 4) scFault.nd rfl (Or.inl rfl)) (fun _ _ _ _ _ => pts_nil) (fun _ _ _ _ _ => pe_cmp (pc_din hu (pv 4) (pv 2)) rfl)) pa_nil)))) (pw_or1 (pt_not (pt_val (pe_call GF hr1 (by rfl) AD.m AD.F.kp AD.b .nil pass0 (pa_cons (pv 3) pa_nil)))))))
      (pss_one (ps_ret pe_str))
      pss_nil)
      (pss_one (ps_ret pe_non))))))), ?_⟩
    have htl : tb.length = (keys tb).length := by simp [keys]
    have hbl : bs.length ≤ 40 := by
      have q : bs.length ≤ (keys tb).length := RO.nd.length_le_of_subset (RO.sub)
      omega
    have hb0 : 1 ≤ bs.length := List.length_pos_iff.mpr RO.ne
    unfold rowO at ht
    refine ⟨_, rfl, rfl, _, rfl, ite2 (fun h0 => ?_) (fun _ => ?_)⟩
    · have e : (n : Int) = 30 := V.int.inj (of_decide_eq_true h0)
      omega
    refine ⟨_, rfl, _, _, _, _, true, rfl, .ty _, .base (.tup ht), kit_ty (by decide +kernel), _, rfl, ?_⟩
    refine ⟨_, rfl, t, _, rfl, .inr (SqT.of ht), _, _, rfl, rfl, _, rfl, ite2 (fun h0 => ?_) (fun _ => ?_)⟩
    · have := of_decide_eq_true h0
      rw [List.length_map, List.length_cons] at this
      have h1 : 1 ≤ (x, bs).snd.length := hb0
      omega
    refine ⟨_, rfl, t, _, rfl, ht, ?_, ?_, fun H1 s1 => ⟨_, rfl, ?_⟩⟩
    · intro y hy
      rcases List.mem_cons.mp hy with rfl | hy
      · exact RO.vw
      · exact hvw y hy
    · show bs.length + 1 ≤ 100
      omega
    refine ⟨_, rfl, t, _, _, _, rfl, rfl, SqT.of (s1 t _ ht), atI_nat (j := 0) rfl, _, rfl, d, _, rfl, DGet.k (k := Sum.inr x) (s1 d _ hd), _, rfl, ?_⟩
    rw [TB.none RO.new]
    refine ⟨_, rfl, _, rfl, t, _, rfl, s1 t _ ht, fun bp H2 s2 hbp => ?_⟩
    rw [cut1'] at hbp
    have s12 := s1.trans s2
    refine ⟨_, rfl, bp, rfl, ⟨_, SqT.of hbp⟩, fun D hD => ?_⟩
    refine lc_tup (K := K) (a := bp) (xs := bs.map V.str) (fun i Hc => Hc D = some (.lst ((List.replicate i true).map V.bl)) ∧ Same H2 Hc) ?_ ?_ ?_ ?_
    · exact ⟨upd_same, (Same.refl H2).put hD⟩
    · rintro i Hc _ ⟨_, sm⟩
      exact SqT.of (sm bp _ hbp)
    · rintro i y Hc hy ⟨h1, sm⟩
      obtain ⟨b, hb, rfl⟩ := List.mem_map.mp (List.mem_of_getElem? hy)
      have hil : i < bs.length := by
        have := (List.getElem?_eq_some_iff.mp hy).1
        rwa [List.length_map] at this
      obtain ⟨u, hu1, _⟩ := TB.val (RO.sub b hb)
      refine ⟨rfl, _, rfl, _, rfl, d, _, rfl, DGet.k (k := Sum.inr b) (sm d _ (s12 d _ hd)), _, h1, ?_, ?_, sm.put hD⟩
      · rw [List.length_map, List.length_replicate]; show _ < 16777216; omega
      · rw [upd_same, List.replicate_succ', List.map_append, hu1]
        rfl
    · rintro Hc ⟨h1, sm⟩
      refine ⟨D, _, rfl, SqL.of h1, _, rfl, ?_⟩
      have e : (List.replicate (bs.map V.str).length true).all id = true := by simp
      rw [e]
      refine ⟨_, rfl, bp, bs, rfl, sm bp _ hbp, RO.nd, by omega, _, rfl, ?_⟩
      exact k Hc (s12.trans sm)
end
end K2
end
section
set_option Elab.async false
set_option maxRecDepth 100000
set_option linter.all false
namespace K2
open PySem PySem.Spec PyProof.Rows L2
/-! enumerate(t) of a tuple -/
def enumO (i : Addr) : Obj := { cls := .type "enumerate", data := .fields #[.none, .bool false, .ref i, rawInt 0, .none, .none] }
set_option maxHeartbeats 1000000 in
theorem enum_made {v : Value} {o : Obj} {B : Heap → Prop} (b : Begins v o B) :
    Meets (Builtin.«enumerate.__new__» ⟨[.type "enumerate", v], []⟩) (fun _ R s => B s.heap ∧ R (.ok (.ret (.ref (s.heap.push o).objs.size))) { s with heap := (s.heap.push o).push (enumO s.heap.objs.size) }) :=
  .of_wp fun prog w A R ⟨hp, g, d, tk, os⟩ ⟨h1, h⟩ => by
    have q0 := sub_enumerate
    have q1 : ∀ {A' : Around} {E : Value → Shared → Prop} {Q : Value → Shared → Prop}, Q (.ref hp.objs.size) ⟨hp.push o, g, d, tk, os⟩ → wpAny (model prog w) A' (pyIter v) Q E ⟨hp, g, d, tk, os⟩ := fun q => b.iter prog w _ _ ⟨hp, g, d, tk, os⟩ _ h1 q
    wp_walk using q1
    refine wpAny_stack_any fun st => wpAny_pure ?_
    split
    · rename_i c _ _ _ _ _
      cases (c == Value.type "enumerate") <;> (wp_walk using q1; exact ⟨_, rfl, h⟩)
    · wp_walk using q1
      exact ⟨_, rfl, h⟩
section
variable {prog : Program} {w : World} {A : Around} {E : Value → Shared → Prop} {s : Shared}
theorem enum_call {v : Value} {o : Obj} {B : Heap → Prop} {Q : Value → Shared → Prop} (b : Begins v o B) (h1 : B s.heap)
    (h : ∀ h', IsEnum h' (s.heap.objs.size + 1) s.heap.objs.size 0 .none → h'.get? s.heap.objs.size = some o → (∀ a u, s.heap.get? a = some u → h'.get? a = some u) → Q (.ref (s.heap.objs.size + 1)) { s with heap := h' }) :
    wpAny (model prog w) A (call (.type "enumerate") [v]) Q E s := by
  refine callType_new F.called_enumerate (by decide) (F.typeCall_enumerate_1 _) (F.newCall_enumerate_1 _) (fun obj => F.args_object_init_2 obj _) F.entry_enumerate_new (enum_made b) ⟨h1, ?_⟩
  have sz : (s.heap.push o).objs.size = s.heap.objs.size + 1 := Heap.size_push ..
  have at1 := Heap.get?_push_size (s.heap.push o) (o := enumO s.heap.objs.size) rfl
  rw [sz] at at1
  show _ ∧ _
  rw [sz]
  exact ⟨⟨_, at1, rfl⟩, h _ at1 (Heap.get?_push_of_some _ (Heap.get?_push_size _ b.free)) fun a u x => Heap.get?_push_of_some _ (Heap.get?_push_of_some _ x)⟩
end
/-- the items of the tuple at a, each in a new pair with its number -/
def IteT (a : Addr) (xs : List V) : It :=
  ⟨fun i H => H a = some (.tup xs) ∧ i < xs.length, fun i H v H' => ∃ T x, v = .ref T ∧ H T = none ∧ H' = upd H T (.tup [.int (i : Nat), x]) ∧ xs[i]? = some x, fun i H => H a = some (.tup xs) ∧ i = xs.length⟩
def tnE (e it t : Addr) (i : Nat) (h : Heap) : Prop := (∃ old, IsEnum h e it (0 + ((i : Nat) : Int)) old) ∧ h.IsTupleIter it t i ∧ e ≠ it ∧ t ≠ it ∧ e ≠ t
theorem turn_enumT {P : Program} {w : World} {K : PySem.W.Frag} {elts : List Expr} {kk : Nat} {tpos : Pos} (xs : List V) (t e it : Addr) : Turn P w K (.Tuple elts kk tpos) (IteT t xs) [e, it] e (tnE e it t) where
  mem := by simp
  obj := fun i h ⟨⟨old, he⟩, ⟨o, ho, hc, hd⟩, _⟩ b hb => by
    rcases List.mem_cons.mp hb with z | z
    · subst z; exact ⟨_, he, fun v q => nomatch q⟩
    · rw [List.mem_singleton.mp z]; exact ⟨o, ho, fun v q => by rw [hd] at q; cases q⟩
  keep := fun i h h' ⟨⟨old, he⟩, hi, n1, n2, n3⟩ k => ⟨⟨old, k e (by simp) _ he⟩, hi.at fun o q => k it (by simp) o q, n1, n2, n3⟩
  item := by
    rintro X rfl rfl rfl hc i pins s σ H E I hf ⟨he, hi, n1, n2, n3⟩ ⟨ha, hlt⟩
    obtain ⟨its, rv, pl, _⟩ := I.tuple (SqT.of ha)
    have sz : its.toArray.size = xs.length := by rw [List.size_toArray, rv.length]
    have W := WalksT.enumFrom (prog := X.prog) (w := X.w) (A := X.A) 0 (Draws.tuple (A := X.A.in1) (by simp [I.ok.hd hc]) it t n2 its.toArray) e n1 (by simp [n1, n3]) (by simp)
    refine W.item i s _ _ (by rw [sz]; exact hlt) ⟨he, hi, pl⟩ fun T vals h' tk ⟨tt, x, hx, ev⟩ hT hTup mid fr => ⟨_, rfl, W.go elts kk tpos i T _ _ _ mid fun h'' ⟨he2, hi2, _⟩ fr2 => ?_⟩
    have hx2 : its[i]? = some x := by simpa using hx
    obtain ⟨y, hy, ry⟩ : ∃ y, xs[i]? = some y ∧ RelV y x := by
      have q : xs[i]? = some xs[i] := List.getElem?_eq_getElem hlt
      obtain ⟨u, hu, ru⟩ := rv.get q
      rw [hx2] at hu
      cases hu
      exact ⟨_, q, ru⟩
    have hTw := W.apart i T _ mid
    have hTf : H T = none := I.hok.fresh hT
    obtain ⟨o2, ho2, hc2, nn, hd2⟩ := hTup
    have new : ObjOk X.prog X.w (upd H T (.tup [.int (i : Nat), y])) h'' T (.tup [.int (i : Nat), y]) :=
      ⟨by show 2 ≤ sizeLine; decide, [.int (i : Nat) tt, x], .cons ⟨_, rfl⟩ (.cons ry .nil), ⟨o2, fr2 T o2 hTw ho2, hc2, nn, by rw [hd2, ev, Int.zero_add]⟩⟩
    refine ⟨.ref T, _, I.turnedNew (ch := [e, it]) (fun b ob hb q => fr2 b ob hb (fr b ob hb q)) hf hT new, rfl, ⟨T, y, rfl, hTf, rfl, hy⟩, ⟨he2, hi2, n1, n2, n3⟩, fun b hb => ?_⟩
    rw [upd_ne fun z : b = T => hTw (z ▸ hb)]
    exact (hf b hb).1
  done := by
    rintro X rfl rfl rfl hc i pins s σ H E I hf ⟨he, hi, n1, n2, n3⟩ ⟨ha, hle⟩
    obtain ⟨its, rv, pl, _⟩ := I.tuple (SqT.of ha)
    have sz : its.toArray.size = i := by rw [List.size_toArray, ← rv.length, hle]
    have W := WalksT.enumFrom (prog := X.prog) (w := X.w) (A := X.A) 0 (Draws.tuple (A := X.A.in1) (by simp [I.ok.hd hc]) it t n2 its.toArray) e n1 (by simp [n1, n3]) (by simp)
    rw [sz] at W
    exact W.done s _ _ ⟨he, hi, pl⟩ fun h' tk fr => ⟨rfl, I.turnedL (ch := [e, it]) fr hf⟩
  self := fun A i s Q E ⟨⟨_, he⟩, _⟩ h => wpAny_pyIter_enum he h
def iEnumT (ta : TA) : TI := fun σ H R => ta σ H fun vs H1 => ∃ a xs, vs = [.ref a] ∧ H1 a = some (.tup xs) ∧ R (IteT a xs) H1
theorem pi_enumT {X : Cx} {e : Expr} {ta : TA} {p pos tpos : Pos} {elts : List Expr} {kk : Nat} (hg : Gl X "enumerate") (hm : X.mg "enumerate" = none) (ha : PA X [e] ta) (hs : starEach [e] X.env = [(false, eval e X.env)] := by rfl) :
    PI X (.Tuple elts kk tpos) (.Call (.Name "enumerate" p) [e] [] pos) (iEnumT ta) := by
  refine ⟨fun pins s σ H R I h => Call_ (ld_blt I hg hm boot_enumerate (callWith_type1 (thn (ha.run pos pins s σ H _ I h) fun us s1 ⟨vs, H1, I1, r1, q1⟩ => ?_) hs rfl))⟩
  obtain ⟨a, xs, rfl, ht, q⟩ := q1
  cases r1 with
  | cons r rr =>
    cases rr
    cases r
    obtain ⟨its, rv, pl, _⟩ := I1.tuple (SqT.of ht)
    have al : a < s1.heap.objs.size := by obtain ⟨_, z, _⟩ := pl; exact Heap.lt_size z
    refine enum_call (begins_tuple a its.toArray) pl fun h' he hit hk => wpAny_pyIter_enum he ⟨s1.heap.objs.size + 1, [s1.heap.objs.size + 1, s1.heap.objs.size], _, _, H1, rfl, I1.kept (t' := s1.toks) hk, turn_enumT xs a (s1.heap.objs.size + 1) s1.heap.objs.size,
      ⟨⟨.none, he⟩, ⟨_, hit, rfl, rfl⟩, Nat.succ_ne_self _, Nat.ne_of_lt al, Nat.ne_of_gt (Nat.lt_succ_of_lt al)⟩, fun b hb => ?_, q⟩
    have le : s1.heap.objs.size ≤ b := by
      rcases List.mem_cons.mp hb with z | z
      · rw [z]; exact Nat.le_succ _
      · rw [List.mem_singleton.mp z]; exact Nat.le_refl _
    exact I1.fpOk le (I1.hok.fresh le)
theorem walk_enumT (a : Addr) (xs : List V) : Walk (IteT a xs) xs.length (fun H => H a = some (.tup xs)) (fun i H v H' => ∃ T x, v = .ref T ∧ H T = none ∧ H' = upd H T (.tup [.int (i : Nat), x]) ∧ xs[i]? = some x) :=
  ⟨fun i H hi h => ⟨h, hi⟩, fun H h => ⟨h, rfl⟩, fun i H x H' _ _ y => y⟩
end K2
end
section
set_option Elab.async false
set_option maxRecDepth 100000
set_option linter.all false
namespace K2
open PySem L2
abbrev sInit : Stmt := inClass (top 24) 0
abbrev sMade : Stmt := inClass (top 24) 2
abbrev sWithin : Stmt := inClass (top 24) 6
abbrev nInit : List Str := ["self", "rows", "lines", "k", "row", "reason"]
def flds (r n l : Addr) : List (Str × V) := putF "_lines" (.ref l) (putF "names" (.ref n) (putF "rows" (.ref r) []))
theorem k1_ : ¬ (("rows" : Str) = "names") := by decide +kernel
theorem k2_ : ¬ (("rows" : Str) = "_lines") := by decide +kernel
theorem k3_ : ¬ (("names" : Str) = "_lines") := by decide +kernel
theorem flds_lines (r n l : Addr) : (flds r n l).lookup ("_lines" : Str) = some (.ref l) := by
  unfold flds
  rw [lookup_putF, if_pos rfl]
theorem flds_no (r n l : Addr) {m : Str} (h1 : ¬ m = "_lines") (h2 : ¬ m = "names") (h3 : ¬ m = "rows") : (flds r n l).lookup m = none := by
  unfold flds
  rw [lookup_putF, if_neg h1, lookup_putF, if_neg h2, lookup_putF, if_neg h3]
  rfl
theorem merge2' (v1 v2 : V) : mergeK [] [((Sum.inr (Str.ofString "vacant") : Key), v1), ((Sum.inr (Str.ofString "error") : Key), v2)] = [((Sum.inr (Str.ofString "vacant") : Key), v1), ((Sum.inr (Str.ofString "error") : Key), v2)] := by
  show putK (putK [] (Sum.inr (Str.ofString "vacant") : Key) v1) (Sum.inr (Str.ofString "error") : Key) v2 = _
  rw [putK_new v1 rfl, putK_new v2 (by
    rw [List.nil_append, valV_cons, if_neg (by decide +kernel)]
    rfl)]
  rfl
/-- Classes stand at p, and know what is within what -/
def ClsAt (C : Addr) (H : Hp) (p : Addr) (tb : Tb) : Prop := ∃ (dx r n l : Addr) (kvs : List (Key × V)), H p = some (.ins C dx (flds r n l)) ∧ H l = some (.dK kvs) ∧ Tab fD H kvs tb
/-- Classes stand at p, made of these rows -/
def ClsW (C : Addr) (H : Hp) (p : Addr) (rs : List Row) : Prop := ∃ (dx r n l : Addr) (kvs : List (Key × V)) (ts : List Addr), H p = some (.ins C dx (flds r n l)) ∧ H l = some (.dK kvs) ∧ Tab fD H kvs (ups rs) ∧ H n = some (.tup ((keys (ups rs)).map V.str)) ∧ H r = some (.tup (ts.map V.ref)) ∧ RowsAt H ts rs
theorem ClsW.at {C p : Addr} {H : Hp} {rs : List Row} (h : ClsW C H p rs) : ClsAt C H p (ups rs) := by
  obtain ⟨dx, r, n, l, kvs, ts, h1, h2, h3, _⟩ := h
  exact ⟨dx, r, n, l, kvs, h1, h2, h3⟩
theorem keys_vals {f : List Str → HO} {H : Hp} {kvs : List (Key × V)} {t : Tb} (TB : Tab f H kvs t) : kvs.map (fun e => kV e.1) = (keys t).map V.str := by
  have := congrArg (List.map kV) TB.keys_eq
  rw [List.map_map, List.map_map] at this
  exact this
theorem flds_names (r n l : Addr) : (flds r n l).lookup ("names" : Str) = some (.ref n) := by
  unfold flds
  rw [lookup_putF, if_neg k3_, lookup_putF, if_pos rfl]
theorem flds_rows (r n l : Addr) : (flds r n l).lookup ("rows" : Str) = some (.ref r) := by
  unfold flds
  rw [lookup_putF, if_neg k2_, lookup_putF, if_neg k1_, lookup_putF, if_pos rfl]
theorem Tab.monoM {f : List Str → HO} {H H' : Hp} {kvs : List (Key × V)} {t : Tb} (h : Tab f H kvs t) (k : ∀ a us, (∃ y, (y, V.ref a) ∈ kvs) → H a = some (f us) → H' a = some (f us)) : Tab f H' kvs t := by
  induction h with
  | nil => exact .nil
  | cons h1 _ ih => exact .cons (k _ _ ⟨_, List.mem_cons_self⟩ h1) (ih fun a us ⟨y, hy⟩ => k a us ⟨y, List.mem_cons_of_mem _ hy⟩)
structure Txt (K : PySem.W.Frag) (mg : Str → Option Value) (C : Addr) : Prop where
  cl : Cls K C
  nR : NoAttr K C "rows"
  nN : NoAttr K C "names"
  nL : NoAttr K C "_lines"
  mgC : mg "Classes" = some (.ref C)
def spInit (C : Addr) : Sp := fun vs H Q _ => ∃ (p dx rt : Addr) (ts : List Addr) (rs : List Row), vs = [.ref p, .ref rt] ∧ H p = some (.ins C dx []) ∧ H rt = some (.tup (ts.map V.ref)) ∧ RowsAt H ts rs ∧ Good rs ∧ rs.length ≤ 30 ∧
  ∀ (H' : Hp), ClsW C H' p rs → (∀ b o, H b = some o → b ≠ p → H' b = some o) → Q .non H'
theorem init_bind (kV doc pm : Value) (an : Option Addr) (cdv ct : Value) : ∀ us rest : List Value, us.length = ["self"].length → bindArgs (PySem.W.fnOf "__init__" "Classes.__init__" (defArgs sInit) (defBody sInit) (defScope sInit) .none kV doc pm an cdv ct) ⟨us ++ rest, []⟩ = (newTuple rest >>= fun t => pure (([("self" : Str)]).zip us ++ [(("rows" : Str), t)])) :=
  StX.bind_star1 (B := fun l => bindArgs (PySem.W.fnOf "__init__" "Classes.__init__" (defArgs sInit) (defBody sInit) (defScope sInit) .none kV doc pm an cdv ct) ⟨l, []⟩) (fun a => rfl) (fun a r rs => rfl)
section
variable {P : Program} {w : World} {K : PySem.W.Frag} {mg : Str → Option Value} {base : Heap}
theorem scInit : FnScope nInit ["self", "rows"] (defScope sInit) := ⟨rfl, rfl, rfl, by decide +kernel, rfl, by decide +kernel, by decide +kernel⟩
theorem ok_init {f C fF fL : Addr} {fd fdF fdL : FuncData} (F : Fun K "__init__" "Classes.__init__" sInit f fd) (X : Txt K mg C) (T : Bi mg) (FA : Df K mg "_fault" sFault fF fdF ["row", "k", "lines"]) (GF : FnOk P w K mg base CX0 3 fF fdF ["row", "k", "lines"] spFault)
    (LI : Df K mg "_line" sLine fL fdL ["row", "lines"]) (GL : FnOk P w K mg base CX0 1 fL fdL ["row", "lines"] spLine) :
    FnR P w K mg base CX0 4 f (fun vs H Q E => ∃ ws rest, vs = ws ++ rest ∧ ws.length = 1 ∧ rest.length ≤ sizeLine ∧ ∀ p, H p = none → spInit C (ws ++ [V.ref p]) (upd H p (.tup rest)) Q E) := by
  obtain ⟨oc, od, kV, doc, pm, an, cdv, ct, osl, rfl, lk, hcd⟩ := F.ex
  refine StX.fn_star (ps := ["self"]) (pv := "rows") lk hcd scInit StX.cxUp_none (init_bind kV doc pm an cdv ct) fun A outer s H vs Q E hr h => ?_
  obtain ⟨p, dx, rt, ts, rs, rfl, hp, ht, R, g, h30, k⟩ := h
  have hr2 : Room 3 _ := hr
  have hr0 : Room 1 _ := hr.mono (by decide)
  have hu := hu_of hr
  suffices hs : ∃ t, PSs (cxOf CX0 P w K mg base nInit "Classes.__init__" (defScope sInit) f cdv A outer s H E).nox (defBody sInit) t ∧ t { nx := fun _ H' => Q .non H', rt := Q } (start nInit [V.ref p, V.ref rt]) H by
    obtain ⟨t, h1, h2⟩ := hs
    exact ⟨t, h1.nox, h2⟩
  refine ⟨_, (pss_cons (ps_set (i := 2) scInit.nd rfl (Or.inl rfl) (pe_disp (pps_cons pe_str (pe_disp (pps_cons pe_str pe_bl pps_nil) (by rfl) (by rfl) (fun z => by cases z) (by decide)) (pps_cons pe_str (pe_disp (pps_cons pe_str pe_bl (pps_cons pe_str pe_bl pps_nil)) (by rfl) (by rfl) (fun z => by cases z) (by decide)) pps_nil)) (by rfl) (by rfl) (fun z => by cases z) (by decide)))
      (pss_cons (ps_for PassesOwn.never rfl (pi_enumT (by rfl) T.enumerate (pa_cons (pv 1) pa_nil)) (pg_tup rfl (pgs_cons (pg_name (i := 3) scInit.nd rfl (Or.inl rfl)) (pgs_cons (pg_name (i := 4) scInit.nd rfl (Or.inl rfl)) pgs_nil)))
      (pss_cons (ps_set (i := 5) scInit.nd rfl (Or.inl rfl) (pe_call GF hr2 (by rfl) FA.m FA.F.kp FA.b .nil pass0 (pa_cons (pv 4) (pa_cons (pv 3) (pa_cons (pv 2) pa_nil)))))
        (pss_cons (ps_if (pt_cmpR op_notN (pv 5) pe_non (nomark _))
        (pss_one (ps_never))
        pss_nil)
        (pss_one (ps_dput hu (pv 2) (pe_ix ix_tup (pv 4) pe_int (fun _ _ => rfl)) (pe_call GL hr0 (by rfl) LI.m LI.F.kp LI.b .nil pass0 (pa_cons (pv 4) (pa_cons (pv 2) pa_nil))) rfl)))))
      (pss_cons (ps_fld (pv 0) (pv 1) rfl)
      (pss_cons (ps_fld (pv 0) (pe_callTy call_tuple_of (by rfl) T.tuple (by decide +kernel) (pa_cons (pe_callTy (call_list_dK rfl) (by rfl) T.list (by decide +kernel) (pa_cons (pv 2) pa_nil)) pa_nil)) rfl)
      (pss_one (ps_fld (pv 0) (pv 2) rfl)))))), ?_⟩
  refine fun d hd d1 hd1 => ⟨upd_same, [((Sum.inr (Str.ofString "error") : Key), V.bl true)], rfl, (by show 1 ≤ 15; decide), fun d2 hd2 => ?_⟩
  rw [merge1, upd_upd] at hd2 ⊢
  refine ⟨upd_same, [((Sum.inr (Str.ofString "vacant") : Key), V.bl true), ((Sum.inr (Str.ofString "error") : Key), V.bl true)], rfl, (by show 2 ≤ 15; decide), ?_⟩
  rw [merge2', upd_upd]
  have n01 : d ≠ d1 := fun e => by rw [← e, upd_same] at hd1; cases hd1
  have n12 : d1 ≠ d2 := fun e => by rw [← e, upd_same] at hd2; cases hd2
  have n02 : d ≠ d2 := fun e => by rw [← e, upd_ne n01, upd_same] at hd2; cases hd2
  have hd1H : H d1 = none := by rw [upd_ne n01.symm] at hd1; exact hd1
  have hd2H : H d2 = none := by rw [upd_ne n12.symm, upd_ne n02.symm] at hd2; exact hd2
  refine ⟨by rw [upd_ne n02, upd_ne n01, upd_same], [((Sum.inr (Str.ofString "error") : Key), V.ref d1), ((Sum.inr (Str.ofString "vacant") : Key), V.ref d2)], rfl, (by show 2 ≤ 15; decide), ?_⟩
  rw [merge2]
  have facts : ∀ H0, H0 = upd (upd (upd (upd H d (.dK [])) d1 (.dK [((Sum.inr (Str.ofString "error") : Key), V.bl true)])) d2 (.dK [((Sum.inr (Str.ofString "vacant") : Key), V.bl true), ((Sum.inr (Str.ofString "error") : Key), V.bl true)])) d
      (.dK [((Sum.inr (Str.ofString "error") : Key), V.ref d1), ((Sum.inr (Str.ofString "vacant") : Key), V.ref d2)]) → Same H H0 ∧ H0 d = some (.dK [((Sum.inr (Str.ofString "error") : Key), V.ref d1), ((Sum.inr (Str.ofString "vacant") : Key), V.ref d2)]) ∧
      Tab fD H0 [((Sum.inr (Str.ofString "error") : Key), V.ref d1), ((Sum.inr (Str.ofString "vacant") : Key), V.ref d2)] t0 := fun H0 e => by
    subst e
    refine ⟨((((Same.refl H).put hd).put hd1H).put hd2H).put hd, upd_same, .cons ?_ (.cons ?_ .nil)⟩
    · rw [upd_ne n01.symm, upd_ne n12, upd_same]
      rfl
    · rw [upd_ne n02.symm, upd_same]
      rfl
  generalize hH0 : upd (upd (upd (upd H d (.dK [])) d1 (.dK [((Sum.inr (Str.ofString "error") : Key), V.bl true)])) d2 (.dK [((Sum.inr (Str.ofString "vacant") : Key), V.bl true), ((Sum.inr (Str.ofString "error") : Key), V.bl true)])) d
      (.dK [((Sum.inr (Str.ofString "error") : Key), V.ref d1), ((Sum.inr (Str.ofString "vacant") : Key), V.ref d2)]) = H0
  obtain ⟨sm0, hd0, T0⟩ := facts H0 hH0.symm
  have tl : (ts.map V.ref).length = rs.length := by rw [List.length_map, R.1]
  refine ⟨_, rfl, rt, _, rfl, sm0 rt _ ht, for_it (walk_enumT rt (ts.map V.ref)) (fun i σ Hc => ∃ (kvs : List (Key × V)) (v3 v4 v5 : Option V), σ = [some (.ref p), some (.ref rt), some (.ref d), v3, v4, v5] ∧ Hc d = some (.dK kvs) ∧ Tab fD Hc kvs (ups (rs.take i)) ∧ Same H Hc ∧ ∀ y a, (y, V.ref a) ∈ kvs → a ≠ d) ?_ ?_ ?_ ?_⟩
  · refine ⟨_, _, _, _, rfl, hd0, T0, sm0, fun y a hya => ?_⟩
    simp only [List.mem_cons, List.not_mem_nil, or_false, Prod.mk.injEq, V.ref.injEq] at hya
    rcases hya with ⟨_, rfl⟩ | ⟨_, rfl⟩
    · exact n01.symm
    · exact n02.symm
  · rintro i σ Hc _ ⟨kvs, v3, v4, v5, rfl, _, _, sm, _⟩
    exact sm rt _ ht
  · rintro i y σ Hc Hy hi ⟨kvs, v3, v4, v5, rfl, hD, TB, sm, hav⟩ ⟨T9, x, rfl, hT9, rfl, hx⟩
    rw [tl] at hi
    have hti : ts[i]? = some (ts[i]'(by rw [R.1]; exact hi)) := List.getElem?_eq_getElem _
    rw [List.getElem?_map, hti] at hx
    generalize ts[i]'(by rw [R.1]; exact hi) = t at hti hx
    cases hx
    have hri : rs[i]? = some rs[i] := List.getElem?_eq_getElem hi
    have htH := sm t _ (R.2 i t _ hti hri)
    have RO := g i _ hri
    have TO := tok_ups g i (Nat.le_of_lt hi)
    have hks := keys_ups_take rs i
    have hus := ups_succ hri
    have hkl := knownAt_len (Nat.le_of_lt hi)
    have hvw := g.vw_known i
    generalize rs[i] = r at hri htH RO hus
    rw [← hks] at RO hkl hvw
    generalize ups (rs.take i) = tb at TB TO hks hus RO hkl hvw
    have htl2 : tb.length = (keys tb).length := by simp [keys]
    have s9 : Same Hc (upd Hc T9 (.tup [V.int (i : Nat), V.ref t])) := (Same.refl Hc).put hT9
    refine ⟨T9, _, rfl, SqT.of upd_same, rfl, _, _, rfl, _, _, rfl, rfl, ?_⟩
    have TB9 : ∀ {H2 : Hp}, Same Hc H2 → Tab fD H2 kvs tb := fun s => TB.mono fun a us e => s a _ e
    refine ⟨_, rfl, _, rfl, _, rfl, t, d, i, r, kvs, tb, rfl, by omega, s9 t _ htH, s9 d _ hD, TB9 s9, TO, RO, fun x hx => hvw x (RO.sub x hx), by omega, fun H2 s2 => ?_⟩
    refine ⟨_, rfl, rfl, _, rfl, iteNS rfl ?_⟩
    have s92 := s9.trans s2
    refine ⟨_, rfl, _, rfl, t, d, r, kvs, tb, rfl, s92 t _ htH, s92 d _ hD, TB9 s92, TO, RO, by omega, fun m H3 hmf hm s3 => ?_⟩
    have s93 := s92.trans s3
    have hD3 := s93 d _ hD
    have ht3 := s93 t _ htH
    obtain ⟨x, bs⟩ := r
    unfold rowO at ht3
    refine ⟨_, rfl, _, rfl, t, _, _, _, rfl, rfl, SqT.of ht3, atI_nat (j := 0) rfl, d, _, rfl, DPut.k (k := Sum.inr x) hD3 ?_, ?_⟩
    · rw [TB.len, htl2]; show _ < 16777216; omega
    rw [putK_new _ (TB.none RO.new)]
    have hmd : m ≠ d := (ne_of_none (s92 d _ hD) hmf).symm
    refine ⟨_, _, _, _, rfl, upd_same, ?_, (sm.trans s93).put hd, fun y a hya => ?_⟩
    · rw [hus]
      refine Tab.snoc ((TB9 s93).monoM fun a us ⟨y, hy⟩ e => by rw [upd_ne (hav y a hy)]; exact e) ?_
      rw [upd_ne hmd]
      exact hm
    · rcases List.mem_append.mp hya with hya | hya
      · exact hav y a hya
      · simp only [List.mem_cons, List.not_mem_nil, or_false, Prod.mk.injEq, V.ref.injEq] at hya
        rw [hya.2]
        exact hmd
  · rintro σ Hc ⟨kvs, v3, v4, v5, rfl, hD, TB, sm, hav⟩
    rw [tl, List.take_length] at TB
    have hpc := sm p _ hp
    have hdp : d ≠ p := ne_of hD hpc (by intro z; cases z)
    refine ⟨_, rfl, _, rfl, p, C, dx, _, rfl, hpc, X.cl, X.nR, (by show 0 < 1000; decide), ?_⟩
    refine ⟨_, rfl, d, kvs, rfl, by rw [upd_ne hdp]; exact hD, fun q1 hq1 => ?_⟩
    refine ⟨q1, _, rfl, .inl ⟨SqL.of upd_same, fun q2 hq2 => ?_⟩⟩
    have np1 : p ≠ q1 := ne_of_none upd_same hq1
    have np2 : p ≠ q2 := ne_of_none ((upd_ne np1).trans upd_same) hq2
    have back : ∀ b o, Hc b = some o → b ≠ p → ∀ o1 o2 o3 o4, (upd (upd (upd (upd Hc p o1) q1 o2) q2 o3) p o4) b = some o := fun b o e n o1 o2 o3 o4 => by
      have e1 : (upd Hc p (.ins C dx (putF "rows" (V.ref rt) []))) b = some o := by rw [upd_ne n]; exact e
      have n1 : b ≠ q1 := ne_of_none e1 hq1
      have n2 : b ≠ q2 := by
        refine ne_of_none (o := o) ?_ hq2
        rw [upd_ne n1]
        exact e1
      rw [upd_ne n, upd_ne n2, upd_ne n1, upd_ne n]
      exact e
    refine ⟨_, rfl, p, C, dx, _, rfl, by rw [upd_ne np2, upd_ne np1, upd_same], X.cl, X.nN, (by show 1 < 1000; decide), ?_⟩
    refine ⟨_, rfl, _, rfl, p, C, dx, _, rfl, upd_same, X.cl, X.nL, ?_, ?_⟩
    · show (if ("rows" : Str) = "names" then _ else _ : List (Str × V)).length < 1000
      rw [if_neg k1_]
      show 2 < 1000
      decide
    rw [upd_upd]
    have nr : ∀ (a : Addr) (us : List V), Hc a = some (.tup us) → a ≠ p := fun a us e => ne_of e hpc (by intro z; cases z)
    refine k _ ⟨dx, rt, q2, d, kvs, ts, upd_same, back d _ hD hdp _ _ _ _, TB.mono fun a us e => back a _ e (ne_of e hpc (by unfold fD; intro z; cases z)) _ _ _ _, ?_, back rt _ (sm rt _ ht) (nr _ _ (sm rt _ ht)) _ _ _ _, R.mono fun b r e => back b _ (sm b _ e) (nr _ _ (sm b _ e)) _ _ _ _⟩ fun b o e n => back b o (sm b o e) n _ _ _ _
    rw [upd_ne np2.symm, upd_same, keys_vals TB]
end
end K2
end
section
set_option Elab.async false
set_option maxRecDepth 100000
set_option linter.all false
namespace K2
open PySem L2 PySem.Spec PyProof.Rows
section
variable {X : Cx} {CX : CXT} {k n i : Nat} {f C : Addr} {fd : FuncData} {ps ks : List Str} {sp : Sp} {E : XK} {m x : Str} {o e : Expr} {p q pos apos : Pos} {ta tk te : TA} {g : List Value → List Value → List Value} {gV : List V → List V → List V} {kws : List Keyword}
theorem run_fnK {pins : List (Addr × Obj)} {σ : L2.St} {H : Hp} {s : Shared} {Q : VK} {us ws : List Value} {vs zs : List V} (F : FnOk X.prog X.w X.K X.mg X.base CX k f fd ps sp) (hr : Room k X.A) (hb : KBn X.K fd ps n ks g gV) (hx : Passes CX X E) (I : Inv X pins σ H s)
    (r : Vals vs us) (rz : Vals zs ws) (l1 : us.length = n) (l2 : ws.length = ks.length) (h : sp (gV vs zs) H Q E) : wpAny (model X.prog X.w) X.A (call (.ref f) us (ks.zip ws)) (EP X pins σ Q) X.xe s := by
  refine wpAny_call (codeAny_mono (F.run X.A X.stack s H ⟨us, ks.zip ws⟩ (g us ws) (gV vs zs) Q E hr I.env0 (hb.to s us ws I.kIn l1 l2) (hb.rel r rz) h) fun y z hq => ?_)
  cases y with
  | error e => exact hx pins σ H s e z I hq
  | ok fl =>
    cases fl with
    | ret u => exact I.after hq
    | next => exact hq.elim
    | brk => exact hq.elim
    | cont => exact hq.elim
/-- o.m(k = v, ..) -/
def tMethK (C : Addr) (m : Str) (sp : Sp) (ks : List Str) (gV : List V → List V → List V) (E : XK) (to : TE) (tk : TA) : TE := fun σ H Q => to σ H fun x H1 => ∃ a dx fs, x = .ref a ∧ H1 a = some (.ins C dx fs) ∧ fs.lookup m = none ∧ tk σ H1 fun zs H2 => zs.length = ks.length ∧ sp (gV [x] zs) H2 Q E
theorem pe_methK {to : TE} {pl : Sem Bool} (he : PE X o to) (c : Cls X.K C) (hm : Meth X.K C m f) (F : FnOk X.prog X.w X.K X.mg X.base CX k f fd ps sp) (hr : Room k X.A) (hb : KBn X.K fd ps 1 ks g gV) (hx : Passes CX X E) (hkw : PK X kws tk)
    (hall : (backToKw pos (keywordEach kws X.env)).all (·.1.isSome) = true := by rfl) (hks : (backToKw pos (keywordEach kws X.env)).filterMap (·.1) = ks := by rfl) (hpl : ((backTo pos (starEach [] X.env)).any (·.1) || (backToKw pos (keywordEach kws X.env)).any (·.1.isNone)) = false := by rfl)
    (ht : eval (.Call (.Attribute o m apos) [] kws pos) X.env = (do
      let ov ← eval o X.env
      standAt apos.atName
      let (f, first) ← holding [ov] (getMethod ov m pl)
      callWith pos f first (backTo pos (starEach [] X.env)) (backToKw pos (keywordEach kws X.env))) := by rfl) : PE X (.Call (.Attribute o m apos) [] kws pos) (tMethK C m sp ks gV E to tk) := by
  refine ⟨fun pins s σ H Q I h => PySem.W.methodCall_KW (pl := pl) (thn (he.run pins s σ H _ I h) fun u s1 ⟨x, H1, I1, rx, a, dx, fs, ex, ea, l, q⟩ => ?_) ht⟩
  subst ex
  obtain rfl : u = Value.ref a := rx
  refine getmeth_ok I1 ea c hm l (PySem.W.callWith_KW0 (first := [.ref a]) (h₀ := X.base) I.ok.mod.kin hm.kp hall (thn (hkw.run pos pins s1 σ H1 _ I1 q) fun ws s2 ⟨zs, H2, I2, rz, l2, q2⟩ => ⟨I2.kIn, ?_⟩) hpl)
  rw [hks]
  exact run_fnK (us := [.ref a]) (vs := [.ref a]) F hr hb hx I2 (.cons rfl .nil) rz rfl (by rw [← l2, rz.length]) q2
/-- c(*y), c a name that holds a class -/
def tMakeL (i : Nat) (K : PySem.W.Frag) (C : Addr) (sp : Sp) (E : XK) (te : TE) : TE := fun σ H Q => σ[i]? = some (some (.ref C)) ∧ te σ H fun y H1 => ∃ a xs, y = .ref a ∧ (SqT K H1 a xs ∨ SqL K H1 a xs) ∧ ∀ x dx, H1 x = none → H1 dx = none → dx ≠ x →
  sp (V.ref x :: xs) (upd (upd H1 dx (.own x)) x (.ins C dx [])) (fun v H2 => v = .non ∧ Q (.ref x) H2) E
theorem pe_makeL {te : TE} (M : Mk X.K C f) (F : FnR X.prog X.w X.K X.mg X.base CX k f sp) (hr : Room (k + 1) X.A) (hN : X.N[i]? = some x) (hv : Vis X.env.scope x) (hx : Passes CX X E) (he : PE X e te) (hdb : (x == ("__debug__" : Str)) = false := by decide) (hcd : (x == ("__classdict__" : Str)) = false := by decide)
    (hst : starEach [.Starred e q] X.env = [(true, eval e X.env)] := by rfl) : PE X (.Call (.Name x p) [.Starred e q] [] pos) (tMakeL i X.K C sp E te) := by
  refine ⟨fun pins s σ H Q I ⟨hs, ht⟩ => wpAny_Call_Name_kw (thn ((pe_var (pos := p) hN hv hdb hcd).run pins s σ H (fun v H1 => v = .ref C ∧ H1 = H) I ⟨.ref C, hs, rfl, rfl⟩) fun u s1 ⟨v, H1, I1, r1, q1⟩ => ?_)⟩
  obtain ⟨rfl, rfl⟩ := q1
  cases r1
  refine PySem.W.callWith_S (h₀ := X.base) I.ok.mod.kin M.kp (thn (he.run pins s1 σ _ _ I1 ht) fun v s2 ⟨y, H2, I2, ry, a, xs, ey, hxs, h2⟩ => ?_) hst
  subst ey
  obtain rfl : v = Value.ref a := ry
  exact StX.star_any I2 hxs fun us s3 I3 rv => ⟨I3.kIn, StX.run_makeR M F hr hx I3 rv h2⟩
end
def spWithin (C : Addr) : Sp := fun vs H Q _ => ∃ (p : Addr) (x y : Str) (tb : Tb), vs = [.ref p, .str x, .str y] ∧ ClsAt C H p tb ∧ x ∈ keys tb ∧ Q (.bl (decide (y ∈ look tb x))) H
def spMade (C : Addr) : Sp := fun vs H Q _ => ∃ (l : Addr) (ts : List Addr) (rs : List Row), vs = [.ref C, .ref l] ∧ H l = some (.lst (ts.map V.ref)) ∧ RowsAt H ts rs ∧ Good rs ∧ rs.length ≤ 30 ∧ ∀ (p : Addr) (H' : Hp), ClsW C H' p rs → Same H H' → Q (.ref p) H'
section
variable {P : Program} {w : World} {K : PySem.W.Frag} {mg : Str → Option Value} {base : Heap}
theorem scWithin : FnScope ["self", "one", "other"] ["self", "one", "other"] (defScope sWithin) := ⟨rfl, rfl, rfl, by decide +kernel, rfl, by decide +kernel, by decide +kernel⟩
theorem ok_within {f C : Addr} {fd : FuncData} (F : Fun K "within" "Classes.within" sWithin f fd) (X : Txt K mg C) : FnOk P w K mg base CX0 1 f fd ["self", "one", "other"] (spWithin C) := by
  refine F.ok scWithin (fun vs H Q E h => ?_) (fun cdv A outer s H vs Q E hr h => ?_)
  · obtain ⟨p, x, y, tb, rfl, _⟩ := h
    rfl
  · obtain ⟨p, x, y, tb, rfl, ⟨dx, r, n, l, kvs, hp, hl, TB⟩, hx, k⟩ := h
    have hu := hu_of hr
    refine ⟨_, pss_one (ps_ret (pe_cmp (pc_din hu (pv 2) (pe_dget hu (pe_fld (pv 0) rfl) (pv 1) (fun _ _ => rfl))) rfl)), ?_⟩
    obtain ⟨a, ha1, ha2⟩ := TB.val hx
    refine ⟨_, rfl, _, rfl, p, C, dx, _, _, rfl, hp, X.cl, X.nL, flds_lines _ _ _, _, rfl, l, _, rfl, dget_s hl ha1, a, _, rfl, DGet.k (k := Sum.inr y) ha2, ?_⟩
    rw [dkeys_val]
    by_cases h : y ∈ look tb x
    · rw [if_pos h]
      rw [decide_eq_true h] at k
      exact k
    · rw [if_neg h]
      rw [decide_eq_false h] at k
      exact k
theorem scMade : FnScope ["cls", "rows"] ["cls", "rows"] (defScope sMade) := ⟨rfl, rfl, rfl, by decide +kernel, rfl, by decide +kernel, by decide +kernel⟩
theorem ok_made {f fI C : Addr} {fd : FuncData} (F : Fun K "made" "Classes.made" sMade f fd) (M : Mk K C fI)
    (GI : FnR P w K mg base CX0 4 fI (fun vs H Q E => ∃ ws rest, vs = ws ++ rest ∧ ws.length = 1 ∧ rest.length ≤ sizeLine ∧ ∀ p, H p = none → spInit C (ws ++ [V.ref p]) (upd H p (.tup rest)) Q E)) : FnOk P w K mg base CX0 6 f fd ["cls", "rows"] (spMade C) := by
  refine F.ok scMade (fun vs H Q E h => ?_) (fun cdv A outer s H vs Q E hr h => ?_)
  · obtain ⟨l, ts, rs, rfl, _⟩ := h
    rfl
  · obtain ⟨l, ts, rs, rfl, hl, R, g, h30, k⟩ := h
    refine ⟨_, pss_one (ps_ret (pe_makeL (i := 0) M GI hr rfl (Or.inl rfl) pass0 (pv 1))), ?_⟩
    refine ⟨rfl, _, rfl, l, _, rfl, .inr (SqL.of hl), fun x dx nx ndx ne => ⟨[V.ref x], _, rfl, rfl, ?_, fun pt hpt => ?_⟩⟩
    · rw [List.length_map, R.1]; show _ ≤ 16777216; omega
    have s1 : Same H (upd (upd H dx (.own x)) x (.ins C dx [])) := ((Same.refl H).put ndx).put nx
    have s2 : Same H (upd (upd (upd H dx (.own x)) x (.ins C dx [])) pt (.tup (ts.map V.ref))) := s1.put (s1.free hpt)
    refine ⟨x, dx, pt, ts, rs, rfl, by rw [upd_ne (ne_of_none upd_same hpt), upd_same], upd_same, R.mono fun b r e => s2 b _ e, g, h30, fun H' cl kp => ⟨rfl, k x H' cl fun b o e => kp b o (s2 b o e) (ne_of_none e nx)⟩⟩
end
end K2
end
section
set_option Elab.async false
set_option maxRecDepth 100000
set_option linter.all false
namespace K2
open PySem L2 PySem.Spec PyProof.Rows
/-- a def's promise where no repr runs around -/
structure FnG (P : Program) (w : World) (K : PySem.W.Frag) (mg : Str → Option Value) (base : Heap) (k : Nat) (f : Addr) (fd : FuncData) (ps : List Str) (sp : Sp) : Prop where
  len : ∀ vs H Q E, sp vs H Q E → vs.length = ps.length
  run : ∀ (A : Around) (outer : List Env) (s : Shared) (H : Hp) (args : Args) (us : List Value) (vs : List V) (Q : VK) (E : XK), Room k A → A.guards = some [] → Env0 P w K mg base A outer s H → BindsTo s fd args (ps.zip us) → Vals vs us → sp vs H Q E →
    codeAny (model P w) A (.call (.ref f) args) (CR CX0 outer P w H s Q E) s
section
variable {P : Program} {w : World} {K : PySem.W.Frag} {mg : Str → Option Value} {base : Heap}
theorem okG {x qual : Str} {st : Stmt} {f : Addr} {fd : FuncData} {N ps : List Str} {k : Nat} {sp : Sp} (F : Fun K x qual st f fd) (S : FnScope N ps (defScope st)) (len : ∀ vs H Q E, sp vs H Q E → vs.length = ps.length)
    (body : ∀ (cdv : Value) (A : Around) (outer : List Env) (s : Shared) (H : Hp) (vs : List V) (Q : VK) (E : XK), Room k (A.deeper (envOfC qual (defScope st) s.heap.objs.size f cdv)) → A.guards = some [] → sp vs H Q E →
      ∃ t, PSs (cxOf CX0 P w K mg base N qual (defScope st) f cdv A outer s H E).nox (defBody st) t ∧ t { nx := fun _ H' => Q .non H', rt := Q } (start N vs) H) : FnG P w K mg base (k + 1) f fd ps sp := by
  obtain ⟨oc, od, kV, doc, pm, an, cdv, ct, osl, rfl, lk, hcd⟩ := F.ex
  refine ⟨len, fun A outer s H args us vs Q E hr hg e0 hb rv hs => ?_⟩
  refine StX.run_bnd (G := fun xs H2 => xs = vs ∧ H2 = H) lk hcd S hr e0 (fun A' Ex Q' h => hb _ _ _ _ (h s H vs us e0 Un.refl rfl (fun _ _ z => z) rv (len _ _ _ _ hs) ⟨rfl, rfl⟩)) fun s2 H2 xs ⟨e1, e2⟩ hr2 => ?_
  subst e1 e2
  obtain ⟨t, h1, h2⟩ := body cdv A outer s2 _ _ Q E hr2 hg hs
  exact ⟨t, h1.nox, h2⟩
end
section
variable {X : Cx} {k : Nat} {f : Addr} {fd : FuncData} {ps : List Str} {sp : Sp} {x : Str} {e : Expr} {es : List Expr} {p pos : Pos} {t : TA}
theorem pe_callG (F : FnG X.prog X.w X.K X.mg X.base k f fd ps sp) (hr : Room k X.A) (gu : X.A.guards = some []) (hg : Gl X x) (hm : X.mg x = some (.ref f)) (hk : PySem.W.keepIn X.K (.ref f) = true) (hb : Binds X.K fd ps []) (ha : PA X (e :: es) t) (hdb : (x == ("__debug__" : Str)) = false := by decide)
    (he : starEach (e :: es) X.env = (false, eval e X.env) :: starEach es X.env := by rfl) (hpl : (backTo pos (starEach es X.env)).any (·.1) = false := by rfl) : PE X (.Call (.Name x p) (e :: es) [] pos) (fun σ H Q => t σ H fun vs H1 => sp vs H1 Q E0) := by
  refine ⟨fun pins s σ H Q I h => wpAny_Call_Name_kw (ld_glob I hg hm ?_ hdb)⟩
  refine PySem.W.callWith_K (h₀ := X.base) I.ok.mod.kin hk (thn (ha.run pos pins s σ H _ I h) fun us s1 ⟨vs, H1, I1, r, q⟩ => ⟨I1.kIn, ?_⟩) he hpl
  have l2 : us.length = ps.length := by rw [← r.length]; exact F.len _ _ _ _ q
  have hb2 := hb s1 us I1.kIn (by simpa using l2)
  rw [List.append_nil] at hb2
  refine wpAny_call (codeAny_mono (F.run X.A X.stack s1 H1 ⟨us, []⟩ us vs Q E0 hr gu I1.env0 hb2 r q) fun y z hq => ?_)
  cases y with
  | error e => exact hq.elim
  | ok fl =>
    cases fl with
    | ret u => exact I1.after hq
    | next => exact hq.elim
    | brk => exact hq.elim
    | cont => exact hq.elim
/-! repr of a list of bools -/
def boolsD (bs : List Bool) : PyData := .list (bs.map PyData.bool)
theorem bools_dp (K : PySem.W.Frag) (H : Hp) : ∀ bs : List Bool, DpAll K H (bs.map V.bl) (bs.map PyData.bool)
  | [] => .nil
  | b :: bs => .cons (.bl b) (bools_dp K H bs)
theorem bools_show : ∀ bs : List Bool, PyData.showableAll (bs.map PyData.bool) = true
  | [] => rfl
  | b :: bs => by
    show (true && PyData.showableAll (bs.map PyData.bool)) = true
    rw [bools_show bs]
    rfl
theorem bools_depth : ∀ bs : List Bool, PyData.depthAll (bs.map PyData.bool) = 0
  | [] => rfl
  | b :: bs => by
    show max 0 (PyData.depthAll (bs.map PyData.bool)) = 0
    rw [bools_depth bs]
    rfl
theorem bools_nodict : ∀ bs : List Bool, PyData.hasDictAll (bs.map PyData.bool) = false
  | [] => rfl
  | b :: bs => by
    show (false || PyData.hasDictAll (bs.map PyData.bool)) = false
    rw [bools_nodict bs]
    rfl
theorem bools_sum : ∀ bs : List Bool, ((PyData.shownAll (bs.map PyData.bool)).map (·.length)).sum ≤ 5 * bs.length ∧ (PyData.shownAll (bs.map PyData.bool)).length = bs.length
  | [] => ⟨Nat.le_refl _, rfl⟩
  | b :: bs => by
    obtain ⟨h1, h2⟩ := bools_sum bs
    have hb : (PyData.shown (.bool b)).length ≤ 5 := by cases b <;> decide +kernel
    refine ⟨?_, ?_⟩
    · show (PyData.shown (.bool b)).length + ((PyData.shownAll (bs.map PyData.bool)).map (·.length)).sum ≤ 5 * (bs.length + 1)
      omega
    · show (PyData.shownAll (bs.map PyData.bool)).length + 1 = bs.length + 1
      omega
theorem bools_size (bs : List Bool) (h : bs.length ≤ 1000) : (boolsD bs).shown.length ≤ sizeLine := by
  have h1 := listText_len_le (PyData.shownAll (bs.map PyData.bool))
  obtain ⟨h2, h3⟩ := bools_sum bs
  show (listText (PyData.shownAll (bs.map PyData.bool))).length ≤ 16777216
  omega
/-- repr(xs) of a list of bools: a text that hangs on the bools alone -/
def rReprB (K : PySem.W.Frag) : List V → Hp → VK → Prop := fun xs H Q => ∃ a bs, xs = [V.ref a] ∧ SqL K H a (bs.map V.bl) ∧ (boolsD bs).shown.length ≤ sizeLine ∧ Q (.str (boolsD bs).shown) H
theorem call_reprB (gu : X.A.guards = some []) (hu : X.A.units + 64 < cLine) : CallR X (.builtin "repr") (rReprB X.K) := by
  intro pins s σ H xs us Q I r h
  obtain ⟨a, bs, rfl, hs, hz, q⟩ := h
  obtain ⟨u, rfl, ru⟩ := r.one
  cases ru
  obtain ⟨as, rd⟩ := Dp.reads I (boolsD bs) (V.ref a) (Value.ref a) (.lst hs (bools_dp _ _ bs)) rfl
  have dp : (boolsD bs).depth = 1 := by
    show PyData.depthAll (bs.map PyData.bool) + 1 = 1
    rw [bools_depth]
  refine repr_of_reads' rd (bools_show bs) (fun z => by rw [show (boolsD bs).hasDict = false from bools_nodict bs] at z; cases z) gu (by rw [dp]; omega) (fun b o e => e) (fun h' u tk hk => ⟨.str _, H, I.kept (t' := tk) hk, ⟨u, rfl⟩, q⟩) hz
end
end K2
end
section
set_option Elab.async false
set_option maxRecDepth 100000
set_option linter.all false
namespace K2
open PySem PySem.Spec PyProof.Rows L2
/-! ### sets of texts that are walked -/
def sTxt (e : Int × Value) : Str := match e.2 with | .str k _ => k | _ => Str.empty
structure WkS (P : Program) (w : World) (D : Froz.SD) (l : List Str) : Prop where
  ok : Froz.TxOk P w D l
  tx : ∀ e ∈ D.1.toList, ∃ u, e.2 = .str (sTxt e) u
  pm : (D.1.toList.map sTxt).Perm l
  rs : Ris D.2.2.place.toList
  ld : w.params.followText "set-order" = true ∨ D.2.2.led = true
theorem addTx_is (h : Int) (v : Value) (D : Froz.SD) : (Froz.addTx h v D).1.toList.Perm (D.1.toList ++ [(h, v)]) ∧ (Ris D.2.2.place.toList → Ris (Froz.addTx h v D).2.2.place.toList) ∧ (Froz.addTx h v D).2.2.led = D.2.2.led := by
  obtain ⟨es, ep, t⟩ := D
  have p := layNew_perm t es h v
  have r := layNew_ris t es h v
  have l := layNew_led t es h v
  unfold Froz.addTx Froz.tailTx
  dsimp only
  generalize layNew t es h v = Z at p r l ⊢
  obtain ⟨e1, t1, wd, gv⟩ := Z
  dsimp only at p r l ⊢
  rw [Array.toList_push] at p
  have r2 : Ris t.place.toList → Ris (if t1.plain = true then { t1 with plain := false } else t1).place.toList := fun q => by split <;> exact r q
  have l2 : (if t1.plain = true then { t1 with plain := false } else t1).led = t.led := by split <;> exact l
  generalize (if t1.plain = true then { t1 with plain := false } else t1) = t2 at r2 l2 ⊢
  by_cases c : (!wd && t2.tooFull) = true
  · rw [if_pos c]
    exact ⟨(relayAll_perm t2 e1 _).trans p, fun _ => relayAll_ris t2 e1 _, (relayAll_led t2 e1 _).trans l2⟩
  · rw [if_neg c]
    exact ⟨p, r2, l2⟩
section
variable {P : Program} {w : World} {A : Around} {E : Value → Shared → Prop} {s : Shared}
theorem WkS.add {D : Froz.SD} {l : List Str} {k : Str} (u : Tok) (W : WkS P w D l) : WkS P w (Froz.addTx (hashStr w k) (.str k u) D) (k :: l) := by
  obtain ⟨p, r, d⟩ := addTx_is (hashStr w k) (.str k u) D
  refine ⟨Froz.add_ok u W.ok, fun e he => ?_, ?_, r W.rs, W.ld.imp id fun z => d.trans z⟩
  · rcases List.mem_append.mp (p.mem_iff.mp he) with q | q
    · exact W.tx e q
    · rw [List.mem_singleton.mp q]
      exact ⟨u, rfl⟩
  · have q := p.map sTxt
    rw [List.map_append] at q
    exact q.trans ((List.perm_append_singleton _ _).trans (W.pm.cons k))
theorem dup_x {a : Addr} {D : Froz.SD} {l : List Str} {k : Str} {u : Tok} {Q : Bool → Shared → Prop} (ho : s.heap.get? a = some (Froz.sObj "set" D)) (F : Froz.TxOk P w D l) (hk : k ∈ l) (hb : l.length < scanBound) (h : Q false s) :
    wpAny (model P w) A (setAddHashed a (.str k u) (hashStr w k)) Q E s := by
  obtain ⟨es, ep, t⟩ := D
  have fits : t.fits es.size = true := F.fit
  have el : ElemsOf (strKind P w) es.toList := F.el
  have few : es.size < scanBound := by
    have : es.size = l.length := F.sz
    omega
  have me : (strKind P w).is k (.str k u) = true := Froz.is_str k u
  obtain ⟨e0, m0, z0⟩ := (F.mem k).mp hk
  unfold setAddHashed setAddHashedIn
  refine wpAny_holding (wpAny_bind (wpAny_setState_of ho rfl fits ?_))
  dsimp only
  rw [byScan_of rfl few el]
  simp only [↓reduceIte]
  unfold setAddByScan
  refine wpAny_bind (wpAny_bind (wpAny_rule (wpAny_bind (wpAny_setScan_of (knd := strKind P w) (k := k) me ho rfl fits el ?_))))
  cases hf : List.findIdx? (fun e => (strKind P w).is k e.2) es.toList with
  | none =>
    have c := List.findIdx?_eq_none_iff.mp hf e0 m0
    rw [z0] at c
    cases c
  | some j => exact wpAny_pure (wpAny_pure h)
theorem fresh_led {a : Value} {Q : Value → Shared → Prop} (h : Q (.ref s.heap.objs.size) { s with heap := s.heap.push (Froz.sObj "set" (#[], 0, .fresh 0 0 (!w.params.followText "set-order"))) }) :
    codeAny (model P w) A (.call (.builtin "set.__new__") ⟨[.type "set", a], []⟩) (wants Q E) s := by
  refine codeAny_of_tree (wpAny_bind (wpAny_of_eq (F.newCall_set_1 a) (wpAny_pure ⟨plainId_quiet F.plain_set_new _, codeAny_builtin F.entry_set_new ?_⟩)))
  rw [Around.under_plainId F.plain_set_new _]
  unfold Builtin.«set.__new__» Builtin.Frozenset.newClass
  have sub := sub_set_self
  obtain ⟨hp, g, d, tk, os⟩ := s
  dsimp only
  wp_walk
  refine wpAny_askSetting (wpAny_pure ?_)
  dsimp only
  simp only [newObj]
  exact wpAny_bind (wpAny_alloc (wpAny_pure (wpAny_pure h)))
end
/-- at a stands a set of just the texts ys, at most n of them -/
def HasS (P : Program) (w : World) (h : Heap) (a : Addr) (ys : List Str) (n : Nat) : Prop := ∃ D l, h.get? a = some (Froz.sObj "set" D) ∧ WkS P w D l ∧ l.Nodup ∧ l.length ≤ n ∧ ∀ y, y ∈ l ↔ y ∈ ys
section
variable {p : Program} {w : World} {A : Around} {Z : Result → Shared → Prop} {it : Addr} {f g : List Addr} {Gs : Array GenState → Array GenState → Prop} {N : Nat} {Yv : Nat → Value → Prop} {Sv : Nat → Shared → Prop}
/-- a set that takes in texts, one after the other -/
theorem set_eats (Wk : WalksS p w A.in1 it f g Gs N Yv Sv) {a : Addr} (af : a ∉ f) {xs : List Str} (lx : xs.length = N) (few : N ≤ 1000) (val : ∀ j v, Yv j v → ∃ t, v = .str (xs.getD j Str.empty) t) :
    ∀ (m j : Nat) (s : Shared), N - j = m → j ≤ N → Sv j s → HasS p w s.heap a (xs.take j) j → (∀ z, Moved (a :: g) Gs s z → HasS p w z.heap a xs N → Z (.ok (.ret .none)) z) →
      codeAny (model p w) A (.builtin "set.update.loop" ⟨[.ref a, .ref it], []⟩) Z s := by
  have ag : a ∉ g := fun q => af (Wk.sub _ q)
  have wide : ∀ b ∈ g, b ∈ a :: g := fun b q => List.mem_cons_of_mem _ q
  have stays : ∀ {s z : Shared} {ys : List Str} {c : Nat}, Moved g Gs s z → HasS p w s.heap a ys c → HasS p w z.heap a ys c := fun mv q => by
    obtain ⟨D, l, ho, r⟩ := q
    exact ⟨D, l, mv.heap a _ ag ho, r⟩
  intro m
  induction m with
  | zero =>
    intro j s hm hj st se fin
    obtain rfl : j = N := by omega
    refine codeAny_builtin F.entry_set_update_loop (by
      rw [Around.under_plainId F.plain_set_update_loop _]
      refine wpAny_bind (Wk.done s _ _ st fun z mv => wpAny_pure (fin z (mv.mono wide) ?_))
      have q := stays mv se
      rwa [← lx, List.take_length, lx] at q)
  | succ m ih =>
    intro j s hm hj st se fin
    have jl : j < N := by omega
    have xj : xs[j]? = some (xs.getD j Str.empty) := by
      rw [List.getD_eq_getElem?_getD, List.getElem?_eq_getElem (by omega)]
      rfl
    have tk : xs.take (j + 1) = xs.take j ++ [xs.getD j Str.empty] := by rw [List.take_add_one, xj]; rfl
    refine codeAny_builtin F.entry_set_update_loop (by
      rw [Around.under_plainId F.plain_set_update_loop _]
      refine wpAny_bind (Wk.item j s _ _ jl st fun v z hv st2 mv => ?_)
      obtain ⟨t, rfl⟩ := val j v hv
      generalize xs.getD j Str.empty = x at xj tk
      obtain ⟨D, l, ho, wk, nd, le, me⟩ := stays mv se
      have go : ∀ (b : Bool) (h2 : Heap), (∀ b o, b ≠ a → z.heap.get? b = some o → h2.get? b = some o) → HasS p w h2 a (xs.take (j + 1)) (j + 1) →
          codeAny (model p w) A (.builtin "set.update.loop" ⟨[.ref a, .ref it], []⟩) Z { z with heap := h2, toks := z.toks + 1 } := fun b h2 kp hs =>
        ih (j + 1) _ (by omega) jl (Wk.frame _ z _ _ st2 (Nat.le_succ _) fun b hb o e => kp b o (fun q => af (q ▸ hb)) e) hs fun y mv2 se4 =>
          fin y (Moved.trans Wk.gtrans ((mv.mono wide).then_heap (Nat.le_succ _) fun b o hb e => kp b o (fun q => hb (q ▸ List.mem_cons_self)) e) mv2) se4
      refine wpAny_bind (wpAny_holding (by
        unfold setAdd
        refine wpAny_holding (wpAny_bind ((strKind p w).pyHash (k := x) (strKind_is _ _ _ _) ?_))
        by_cases hx : x ∈ l
        · refine dup_x (s := { z with toks := z.toks + 1 }) ho wk.ok hx (by unfold scanBound; omega) ?_
          refine wpAny_pure ⟨plainId_quiet F.plain_set_update_loop _, go false z.heap (fun _ _ _ e => e) ⟨D, l, ho, wk, nd, by omega, fun y => ?_⟩⟩
          rw [tk, List.mem_append, List.mem_singleton, ← me y]
          exact ⟨.inl, fun q => q.elim id fun e => e ▸ hx⟩
        · refine Froz.add_x (s := { z with toks := z.toks + 1 }) ho wk.ok hx (by unfold scanBound; omega) ?_
          refine wpAny_pure ⟨plainId_quiet F.plain_set_update_loop _, go true _ (fun b o hb e => (Heap.get?_update_other _ _ (Ne.symm hb)).trans e) ⟨_, x :: l, Froz.get_upd _ ho rfl, wk.add t, List.nodup_cons.mpr ⟨hx, nd⟩, by rw [List.length_cons]; omega, fun y => ?_⟩⟩
          rw [tk, List.mem_append, List.mem_singleton, ← me y, List.mem_cons]
          exact Or.comm)))
end
section
variable {p : Program} {w : World} {A : Around} {E : Value → Shared → Prop} {s : Shared}
set_option maxHeartbeats 3200000 in
/-- set(l) of a list of texts holds just these -/
theorem set_of_lst {l : Addr} {its : Array Value} {xs : List Str} {Q : Value → Shared → Prop} (hh : A.handled = none) (hl : s.heap.IsList l its) (hi : StrsAre its.toList xs) (few : xs.length ≤ 1000)
    (fin : ∀ (h' : Heap) (tk : Nat), HasS p w h' s.heap.objs.size xs xs.length → (∀ b o, b < s.heap.objs.size → s.heap.get? b = some o → h'.get? b = some o) → Q (.ref s.heap.objs.size) { s with heap := h', toks := tk }) :
    wpAny (model p w) A (call (.type "set") [.ref l]) Q E s := by
  have sz : its.size = xs.length := by rw [← Array.length_toList, StrsAre.len_eq hi]
  obtain ⟨c, tl, hmro⟩ := F.called_set.mro
  have m1 := F.called_set.made
  have m2 := F.called_set.sub
  refine wpAny_call (codeAny_of_tree (wpAny_pure ⟨Code.quiet_builtin _ (by decide +kernel), codeAny_builtin F.entry_type_call (by
    rw [Around.under_plain (weight_type_call_type "set" [.ref l] []) rfl]
    have m3 := F.called_set.notType
    have m4 := F.called_set.canCreate
    have m5 := F.typeCall_set_1 (.ref l)
    repeat (any_goals (first | assumption | wp_step))
    refine codeAny_mono (fresh_led (P := p) (w := w) (a := .ref l) (E := E) (Q := fun v z => v = .ref s.heap.objs.size ∧ z = { s with heap := s.heap.push (Froz.sObj "set" (#[], 0, .fresh 0 0 (!w.params.followText "set-order"))) }) ⟨rfl, rfl⟩) fun r z hr => ?_
    cases r with
    | error e => exact hr
    | ok fl =>
      cases fl with
      | next => exact hr.elim
      | brk => exact hr.elim
      | cont => exact hr.elim
      | ret v =>
        obtain ⟨rfl, rfl⟩ := hr
        generalize hled : (!w.params.followText "set-order") = led
        have hS : (s.heap.push (Froz.sObj "set" (#[], 0, .fresh 0 0 led))).get? s.heap.objs.size = some (Froz.sObj "set" (#[], 0, .fresh 0 0 led)) := Heap.get?_push_size _ rfl
        have hT : Shared.TypeIs { s with heap := s.heap.push (Froz.sObj "set" (#[], 0, .fresh 0 0 led)) } (.ref s.heap.objs.size) "set" := ⟨_, hS, rfl⟩
        have n1 := F.called_set.init.lookup
        have n2 := F.called_set.init.bind (.ref s.heap.objs.size)
        repeat (any_goals (first | assumption | wp_step))
        refine codeAny_mono (codeAny_call_builtin (R := wants (fun r z => r = .none ∧ ∃ h' tk, z = { s with heap := h', toks := tk } ∧ HasS p w h' s.heap.objs.size xs xs.length ∧ (∀ b o, b < s.heap.objs.size → s.heap.get? b = some o → h'.get? b = some o)) E) F.called_set.init.plain F.entry_set_init (check_set_init_1 hT ?_)) fun r2 z2 hr2 => ?_
        · obtain ⟨⟨tc, td, tdata, tsl⟩, ho, hc, tn, hd⟩ := hl
          simp only at hc hd
          subst hc hd
          have ho2 : (s.heap.push (Froz.sObj "set" (#[], 0, .fresh 0 0 led))).get? l = some { cls := .type "list", dict := td, data := .seq its tn, slots := tsl } := Heap.get?_push_of_some _ ho
          have q1 := F.sub_list_set
          have q2 := F.sub_list_frozenset
          have q3 : (Value.type "list" == Value.type "dict") = false := by decide
          have lis : (s.heap.push (Froz.sObj "set" (#[], 0, .fresh 0 0 led))).IsList l its := ⟨_, ho2, rfl, tn, rfl⟩
          have lS : l < s.heap.objs.size := Heap.lt_size ho
          have pz : (s.heap.push (Froz.sObj "set" (#[], 0, .fresh 0 0 led))).objs.size = s.heap.objs.size + 1 := Heap.size_push ..
          unfold Builtin.«set.__init__» noKeywords Builtin.Frozenset.updateFrom
          generalize hPI : pyIter = PI
          unfold Froz.sObj at *
          wp_walk
          subst hPI
          refine wpAny_pyIter_list lis (wpAny_bind (wpAny_runValue ?_))
          have hn3 : A.in1.in1.in1.handled = none := by simp [hh]
          have vals : ∀ (j : Nat) (v : Value), its[j]? = some v → ∃ t, v = .str (xs.getD j Str.empty) t := fun j v hv => SS.strs_at hi j v (by rw [Array.getElem?_toList]; exact hv)
          refine set_eats ((Walks.list hn3 _ l (by rw [Heap.size_push]; exact Nat.ne_of_lt (Nat.lt_succ_of_lt lS)) its).toS) (a := s.heap.objs.size) (by
            simp only [List.mem_cons, List.not_mem_nil, or_false, not_or]
            exact ⟨by rw [Heap.size_push]; exact (Nat.succ_ne_self _).symm, Nat.ne_of_gt lS⟩) sz.symm (by omega) vals (its.size - 0) 0 _ (by omega) (Nat.zero_le _) ⟨⟨_, Heap.get?_push_size _ rfl, rfl, rfl⟩, lis.push _⟩ ?_ ?_
          · refine ⟨(#[], 0, .fresh 0 0 led), [], Heap.get?_push_of_some _ hS, ⟨Froz.TxOk.nil rfl, fun e he => by simp at he, .nil, List.Pairwise.nil, ?_⟩, List.nodup_nil, Nat.zero_le _, fun y => by simp⟩
            show _ ∨ led = true
            rw [← hled]
            cases w.params.followText "set-order"
            · exact .inr rfl
            · exact .inl rfl
          · rintro ⟨h', g', d', tk', os'⟩ mv se
            obtain rfl : g' = s.gens := mv.gens
            obtain rfl : d' = s.drawn := mv.drawn
            obtain rfl : os' = s.os := mv.os
            refine wpAny_pure (wpAny_pure ⟨rfl, h', tk', rfl, by rw [← sz]; exact se, fun b o hb e => mv.heap b o ?_ (Heap.get?_push_of_some _ (Heap.get?_push_of_some _ e))⟩)
            simp only [List.mem_cons, List.not_mem_nil, or_false, not_or]
            exact ⟨Nat.ne_of_lt hb, by rw [Heap.size_push]; exact Nat.ne_of_lt (Nat.lt_succ_of_lt hb)⟩
        · cases r2 with
          | error e => exact hr2
          | ok f2 =>
            cases f2 with
            | next => exact hr2.elim
            | brk => exact hr2.elim
            | cont => exact hr2.elim
            | ret v =>
              obtain ⟨rfl, h', tk, rfl, se, kp⟩ := hr2
              repeat (any_goals (first | assumption | wp_step))
              exact fin _ _ se kp)⟩))
end
end K2
end
section
set_option Elab.async false
set_option maxRecDepth 100000
set_option linter.all false
namespace K2
open PySem PySem.Spec PyProof.Rows L2
section
variable {p : Program} {w : World} {A : Around} {E : Value → Shared → Prop} {s : Shared}
/-- sorted(a), a set of texts, fewer than 64 -/
theorem sorted_has {a : Addr} {xs : List Str} {n : Nat} {Q : Value → Shared → Prop} (S : HasS p w s.heap a xs n) (hh : A.handled = none) (h64 : n < 64)
    (fin : ∀ z q (out : Array Value) (c : Nat) (ys : List Str), (∀ b o, s.heap.get? b = some o → z.heap.get? b = some o) → z.gens = s.gens → z.os = s.os → s.heap.objs.size ≤ q →
      z.heap.get? q = some (seqObj "list" out c) → StrsAre out.toList ys → ys.Nodup → ys.length ≤ n → (∀ y, y ∈ ys ↔ y ∈ xs) → sortedS ys = true → Q (.ref q) z) :
    wpAny (model p w) A (call (.builtin "sorted") [.ref a]) Q E s := by
  obtain ⟨⟨es, ep, t⟩, l, ho, W, nd, le, me⟩ := S
  have few : es.size < scanBound := by
    have : es.size = l.length := W.ok.sz
    unfold scanBound
    omega
  refine Calls.call_function_entry kind_sorted plain_sorted entry_sorted (args_sorted1 _) (by
    unfold Builtin.«sorted»
    refine wpAny_bind (m := checkCount "sorted" 1 1 _) (wpAny_pure (wpAny_bind (collect_set (A := A.in1) hh ⟨_, ho, rfl, rfl⟩ W.ok.fit few W.rs W.ld fun z vs k1 hz g1 o1 pm => ?_)))
    have sv : StrsAre vs (vs.map strOf) := strsAre_map vs fun v hv => by
      obtain ⟨e, he, q⟩ := List.mem_map.mp (pm.mem_iff.mp hv)
      obtain ⟨u, hu⟩ := W.tx e he
      exact ⟨_, u, q.symm.trans hu⟩
    have pl : (vs.map strOf).Perm l := by
      have q := pm.map strOf
      rw [List.map_map] at q
      refine q.trans ((List.Perm.of_eq (List.map_congr_left fun e he => ?_)).trans W.pm)
      obtain ⟨u, hu⟩ := W.tx e he
      show strOf e.2 = sTxt e
      rw [hu]
      rfl
    have vl : vs.length = l.length := by rw [← pl.length_eq, List.length_map]
    refine wpAny_bind (wpAny_newList ?_ (by rw [vl, sizeLine_eq]; omega))
    have ol : (z.heap.push (seqObj "list" vs.toArray 0)).get? z.heap.objs.size = some (seqObj "list" vs.toArray 0) := Heap.get?_push_size _ rfl
    refine wpAny_bind (wpAny_holding (wpAny_call_entry slot_list_sort ⟨_, ol, rfl⟩ entry_list_sort (list_sort_treeKAny strKind_oneLt ol sv.keysOf (fun v1 v2 rest e => keyKind_strs (by rw [← e]; exact sv)) (by rw [vl, sizeLine_eq]; omega) fun st hp hs => ⟨_, rfl, ?_⟩) (args_list_sort _)))
    obtain ⟨ys, y1, y2, y3⟩ := sorted_out_str sv hp hs
    obtain ⟨c, hc⟩ := sortedHeap_at (vs := vs) (out := (arrOf st).map (·.2)) ol
    have py := y2.trans pl
    refine wpAny_pure ⟨_, rfl, fin _ z.heap.objs.size _ c ys (fun b u e => ?_) g1 o1 hz hc y1 (py.nodup_iff.mpr nd) (by rw [py.length_eq]; exact le) (fun y => (py.mem_iff).trans (me y)) y3⟩
    have lt := Heap.lt_size (k1 b u e)
    show (sortedHeap (z.heap.push (seqObj "list" vs.toArray 0)) z.heap.objs.size vs _).get? b = some u
    rw [sortedHeap_old (Nat.ne_of_lt lt) (by rw [size_push']; exact Nat.lt_succ_of_lt lt)]
    exact Heap.get?_push_of_some _ (k1 b u e))
end
end K2
end
section
set_option Elab.async false
set_option maxRecDepth 100000
set_option linter.all false
namespace K2
open PySem PySem.Spec PyProof.Rows L2
def tSortedSet (te : TE) : TE := fun σ H Q => te σ H fun x H1 => ∃ (l : Addr) (xs : List Str), x = .ref l ∧ H1 l = some (.lst (xs.map V.str)) ∧ xs.length < 64 ∧
  ∀ (ys : List Str) (q : Addr), ys.Nodup → ys.length ≤ xs.length → (∀ y, y ∈ ys ↔ y ∈ xs) → sortedS ys = true → H1 q = none → Q (.ref q) (upd H1 q (.lst (ys.map V.str)))
section
variable {X : Cx}
/-- sorted(set(l)), l a list of texts -/
theorem pe_sortedSet {a : Expr} {ta : TE} {p1 p2 p3 pos : Pos} (h1 : Gl X "sorted") (h2 : X.mg "sorted" = none) (h3 : Gl X "set") (h4 : X.mg "set" = none) (ha : PE X a ta) (hc : X.calm = true := by rfl)
    (na : starEach [a] X.env = (false, eval a X.env) :: starEach [] X.env := by rfl) (bs : bootBuiltins "sorted" = some (.builtin "sorted") := by decide +kernel) : PE X (.Call (.Name "sorted" p1) [.Call (.Name "set" p2) [a] [] p3] [] pos) (tSortedSet ta) := by
  refine ⟨fun pins s σ H Q I h => Call_ (ld_blt I h1 h2 bs (callWith_builtin1 (args_cons (Call_ (ld_blt I h3 h4 boot_set (callWith_type1 (args_cons (thn (ha.run pins s σ H _ I h) fun v s1 ⟨x, H1, I1, r1, q1⟩ => args_nil ?_) na) na rfl))) rfl) rfl rfl))⟩
  obtain ⟨l, xs, rfl, hl, few, q⟩ := q1
  cases r1
  obtain ⟨its, r, pl, _⟩ := I1.list (SqL.of hl)
  have hx : StrsAre its xs := by simpa using strsAre_of r
  refine set_of_lst (I1.ok.hd hc) pl.isList (by simpa using hx) (by omega) fun h' tk hS hk => args_nil ?_
  have I2 : Inv X pins σ H1 { s1 with heap := h', toks := tk } := I1.kept fun b o e => hk b o (Heap.lt_size e) e
  have hS2 : HasS X.prog X.w ({ s1 with heap := h', toks := tk } : Shared).heap s1.heap.objs.size xs xs.length := hS
  generalize ({ s1 with heap := h', toks := tk } : Shared) = s2 at I2 hS2 ⊢
  refine sorted_has hS2 (I1.ok.hd hc) few fun z p out c ys k g o hp hg hi nd le me so => ?_
  have hlen : (ys.map V.str).length ≤ sizeLine := by rw [List.length_map, sizeLine_eq]; omega
  have hn : H1 p = none := I2.hok.fresh hp
  have J : Inv X pins σ (upd H1 p (.lst (ys.map V.str))) { s2 with heap := z.heap, gens := z.gens, drawn := z.drawn, toks := z.toks } :=
    I2.call (ch := []) (Un.laid k hp hn) (I2.hok.laid k hp ⟨hlen, out.toList, c, vals_of_strs hi, hg⟩) (by rw [g]; exact I2.bare) (fun _ z => nomatch z)
  have e : z = { s2 with heap := z.heap, gens := z.gens, drawn := z.drawn, toks := z.toks } := by
    cases z
    cases s2
    cases o
    rfl
  rw [e]
  exact ⟨.ref p, _, J, rfl, q ys p nd le me so hn⟩
end
end K2
end
section
set_option Elab.async false
set_option maxRecDepth 100000
set_option linter.all false
namespace K2
open PySem L2
abbrev sKind : Stmt := inClass (top 24) 8
abbrev nKind : List Str := ["self", "names", "lowest", "x", "y"]
def scK1 : Scope := { kind := .function, names := [(Str.ofString ".0", .local), (Str.ofString "x", .cell), (Str.ofString "any", .globalImplicit), (Str.ofString "names", .cell), (Str.ofString "self", .cell)], isGenerator := false, isCoroutine := false }
/-- ys: the ascending ones of xs that no other one of xs is within -/
structure Least (tb : Tb) (xs ys : List Str) : Prop where
  nd : ys.Nodup
  so : PyProof.Rows.sortedS ys = true
  me : ∀ y, y ∈ ys ↔ y ∈ xs ∧ ∀ z ∈ xs, z ≠ y → y ∉ look tb z
def low (tb : Tb) (xs : List Str) (y : Str) : Bool := !(xs.map fun z => decide (z ≠ y) && decide (y ∈ look tb z)).any id
def spKind (C : Addr) : Sp := fun vs H Q _ => ∃ (p t : Addr) (xs : List Str) (tb : Tb), vs = [.ref p, .ref t] ∧ ClsAt C H p tb ∧ H t = some (.tup (xs.map V.str)) ∧ (∀ x ∈ xs, x ∈ keys tb) ∧ xs.length ≤ 40 ∧
  ∀ (ys : List Str) (r : Addr) (H' : Hp), Least tb xs ys → H r = none → H' r = some (.tup (ys.map V.str)) → Same H H' → Q (.ref r) H'
theorem ClsAt.same {C : Addr} {H H' : Hp} {p : Addr} {tb : Tb} (h : ClsAt C H p tb) (s : Same H H') : ClsAt C H' p tb := by
  obtain ⟨dx, r, n, l, kvs, h1, h2, h3⟩ := h
  exact ⟨dx, r, n, l, kvs, s _ _ h1, s _ _ h2, h3.mono fun a us e => s a _ e⟩
theorem ClsAt.ins {C : Addr} {H : Hp} {p : Addr} {tb : Tb} (h : ClsAt C H p tb) : ∃ dx fs, H p = some (.ins C dx fs) ∧ ∀ m : Str, ¬ m = "_lines" → ¬ m = "names" → ¬ m = "rows" → fs.lookup m = none := by
  obtain ⟨dx, r, n, l, kvs, h1, h2, h3⟩ := h
  exact ⟨dx, _, h1, fun m a b c => flds_no _ _ _ a b c⟩
theorem cr_anyK {X : Cx} {K' : PySem.W.Frag} (hK : X.K = K') (hc : X.calm = true) : CallR X (.builtin "any") (rAny K') := by
  subst hK
  exact cr_any hc
theorem pi_tupK {X : Cx} {K' : PySem.W.Frag} {tg l : Expr} {tl : TE} (hK : X.K = K') (hl : PE X l tl) : PI X tg l (iTup K' tl) := by
  subst hK
  exact pi_tup hl
theorem kind_bind (kV doc pm : Value) (an : Option Addr) (cdv ct : Value) : ∀ us rest : List Value, us.length = ["self"].length → bindArgs (PySem.W.fnOf "kind" "Classes.kind" (defArgs sKind) (defBody sKind) (defScope sKind) .none kV doc pm an cdv ct) ⟨us ++ rest, []⟩ = (newTuple rest >>= fun t => pure (([("self" : Str)]).zip us ++ [(("names" : Str), t)])) :=
  StX.bind_star1 (B := fun l => bindArgs (PySem.W.fnOf "kind" "Classes.kind" (defArgs sKind) (defBody sKind) (defScope sKind) .none kV doc pm an cdv ct) ⟨l, []⟩) (fun a => rfl) (fun a r rs => rfl)
section
variable {P : Program} {w : World} {K : PySem.W.Frag} {mg : Str → Option Value} {base : Heap}
theorem scKind : FnScope nKind ["self", "names"] (defScope sKind) := ⟨rfl, rfl, rfl, by decide +kernel, rfl, by decide +kernel, by decide +kernel⟩
theorem ok_kind {f C fW : Addr} {fd fdW : FuncData} (F : Fun K "kind" "Classes.kind" sKind f fd) (X : Txt K mg C) (T : Bi mg) (tAny : mg "any" = none) (tSo : mg "sorted" = none)
    (mW : Meth K C "within" fW) (GW : FnOk P w K mg base CX0 1 fW fdW ["self", "one", "other"] (spWithin C)) (bW : Binds K fdW ["self", "one", "other"] []) :
    FnR P w K mg base CX0 3 f (fun vs H Q E => ∃ ws rest, vs = ws ++ rest ∧ ws.length = 1 ∧ rest.length ≤ sizeLine ∧ ∀ p, H p = none → spKind C (ws ++ [V.ref p]) (upd H p (.tup rest)) Q E) := by
  obtain ⟨oc, od, kV, doc, pm, an, cdv, ct, osl, rfl, lk, hcd⟩ := F.ex
  refine StX.fn_star (ps := ["self"]) (pv := "names") lk hcd scKind StX.cxUp_none (kind_bind kV doc pm an cdv ct) fun A outer s H vs Q E hr h => ?_
  obtain ⟨p, tp, xs, tb, rfl, cl, ht, hk, h8, k⟩ := h
  have hr1 : Room 1 _ := hr.mono (by decide)
  have hu := hu_of hr
  suffices hs : ∃ t, PSs (cxOf CX0 P w K mg base nKind "Classes.kind" (defScope sKind) f cdv A outer s H E).nox (defBody sKind) t ∧ t { nx := fun _ H' => Q .non H', rt := Q } (start nKind [V.ref p, V.ref tp]) H by
    obtain ⟨t, h1, h2⟩ := hs
    exact ⟨t, h1.nox, h2⟩
  refine ⟨_, (pss_cons (ps_setLc (i := 2) (own := [("x", 3)]) (g := gName 3) rfl scKind.nd rfl rfl (sw_true rfl rfl rfl (by decide +kernel)) (pi_tup (pv 1)) (blkOk_by (N := nKind) (sc := defScope sKind) (by decide +kernel)) (fun _ _ _ _ _ => pg_name (i := 3) scKind.nd rfl (Or.inr rfl))
      (fun _ _ _ _ _ => pts_one (pt_not (pt_val (pe_callB (cr_anyK (K' := K) rfl rfl) (by rfl) tAny (by decide +kernel) (pa_cons
        (pe_lc (own := [("y", 4)]) (g := gName 4) (tt := tYes) rfl scKind.nd (pi_tupK (K' := K) rfl (pv 1)) (blkOk_by (N := nKind) (sc := scK1) (by decide +kernel)) (fun _ _ _ _ _ => pg_name (i := 4) scKind.nd rfl (Or.inl rfl)) (fun _ _ _ _ _ => pts_nil)
          (fun _ _ _ _ _ => pe_and (pe_cmpR op_ne (pv 4) (pv 3) (nomark _)) (pe_one (pe_meth (pv 0) X.cl mW GW hr1 bW .nil pass0 (pa_cons (pv 4) (pa_cons (pv 3) pa_nil)))))) pa_nil)))))
      (fun _ _ _ _ _ => pv 3))
    (pss_one (ps_ret (pe_callTy call_tuple_of (by rfl) T.tuple (by decide +kernel) (pa_cons (pe_sortedSet (by rfl) tSo (by rfl) T.set (pv 2)) pa_nil))))), ?_⟩
  refine ⟨_, rfl, tp, rfl, ⟨_, SqT.of ht⟩, fun D hD => ?_⟩
  obtain ⟨dx, fs, hp1, hp2⟩ := cl.ins
  have hp2 := hp2 "within" (by decide +kernel) (by decide +kernel) (by decide +kernel)
  refine lc_tup (K := K) (a := tp) (xs := xs.map V.str) (fun i Hc => Hc D = some (.lst (((xs.take i).filter (low tb xs)).map V.str)) ∧ Same H Hc) ?_ ?_ ?_ ?_
  · exact ⟨upd_same, (Same.refl H).put hD⟩
  · rintro i Hc _ ⟨_, sm⟩
    exact SqT.of (sm tp _ ht)
  · rintro i y Hc hy ⟨h1, sm⟩
    have hil : i < xs.length := by
      have := (List.getElem?_eq_some_iff.mp hy).1
      rwa [List.length_map] at this
    have hxi : xs[i]? = some xs[i] := List.getElem?_eq_getElem hil
    rw [List.getElem?_map, hxi] at hy
    have hxk := hk xs[i] (List.getElem_mem hil)
    generalize xs[i] = x at hxi hy hxk
    cases hy
    refine ⟨rfl, _, rfl, tp, rfl, ⟨_, SqT.of (sm tp _ ht)⟩, fun D2 hD2 => ?_⟩
    refine lc_tup (K := K) (a := tp) (xs := xs.map V.str) (fun j Hd => Hd D2 = some (.lst (((xs.take j).map fun z => decide (z ≠ x) && decide (x ∈ look tb z)).map V.bl)) ∧ Same Hc Hd) ?_ ?_ ?_ ?_
    · exact ⟨upd_same, (Same.refl Hc).put hD2⟩
    · rintro j Hd _ ⟨_, sd⟩
      exact SqT.of (sd tp _ (sm tp _ ht))
    · rintro j y Hd hy ⟨g1, sd⟩
      have hjl : j < xs.length := by
        have := (List.getElem?_eq_some_iff.mp hy).1
        rwa [List.length_map] at this
      have hzj : xs[j]? = some xs[j] := List.getElem?_eq_getElem hjl
      rw [List.getElem?_map, hzj] at hy
      have hzk := hk xs[j] (List.getElem_mem hjl)
      have et : xs.take (j + 1) = xs.take j ++ [xs[j]] := by rw [List.take_add_one, hzj]; rfl
      generalize xs[j] = z at hzj hy hzk et
      cases hy
      have fin : ∀ v : Bool, v = (decide (z ≠ x) && decide (x ∈ look tb z)) → (List.map V.bl (List.map (fun z => decide (z ≠ x) && decide (x ∈ look tb z)) (List.take j xs))).length < sizeLine ∧
          (upd Hd D2 (.lst (List.map V.bl (List.map (fun z => decide (z ≠ x) && decide (x ∈ look tb z)) (List.take j xs)) ++ [V.bl v]))) D2 = some (.lst (List.map V.bl (List.map (fun z => decide (z ≠ x) && decide (x ∈ look tb z)) (List.take (j + 1) xs)))) := fun v e => by
        refine ⟨?_, ?_⟩
        · rw [List.length_map, List.length_map, List.length_take]; show _ < 16777216; omega
        · rw [upd_same, et, List.map_append, List.map_append, e]
          rfl
      refine ⟨rfl, _, rfl, _, rfl, rfl, _, rfl, ?_⟩
      have s2 := sm.trans sd
      by_cases hzx : z = x
      · refine ite2 (fun h => ?_) (fun _ => ⟨_, g1, (fin false ?_).1, (fin false ?_).2, sd.put hD2⟩)
        · rw [hzx] at h
          simp at h
        · simp [hzx]
        · simp [hzx]
      · have hkx : ¬ V.str z = V.str x := fun e => hzx (V.str.inj e)
        refine ite2 (fun _ => ⟨_, rfl, p, dx, fs, rfl, s2 p _ hp1, hp2, _, rfl, _, rfl, p, z, x, tb, rfl, cl.same s2, hzk, _, g1, (fin (decide (x ∈ look tb z)) ?_).1, (fin (decide (x ∈ look tb z)) ?_).2, sd.put hD2⟩) (fun h => ?_)
        · simp [hzx]
        · simp [hzx]
        · exact absurd (by rw [decide_eq_false hkx]; rfl) h
    · rintro Hd ⟨g1, sd⟩
      rw [List.length_map, List.take_length] at g1
      have s2 := sm.trans sd
      refine ⟨D2, _, rfl, SqL.of g1, _, rfl, ?_⟩
      have h2 := sd D _ h1
      have et : xs.take (i + 1) = xs.take i ++ [x] := by rw [List.take_add_one, hxi]; rfl
      have fl : ((xs.take i).filter (low tb xs)).length ≤ xs.length := Nat.le_trans (List.length_filter_le _ _) (by rw [List.length_take]; omega)
      refine ite2 (fun h => ?_) (fun h => ?_)
      · have hl : low tb xs x = true := h
        refine ⟨_, rfl, _, h2, ?_, ?_, s2.put hD⟩
        · rw [List.length_map]; show _ < 16777216; omega
        · rw [upd_same, et, List.filter_append, List.filter_cons, if_pos hl, List.map_append]
          rfl
      · have hl : ¬ low tb xs x = true := h
        refine ⟨?_, s2⟩
        rw [et, List.filter_append, List.filter_cons, if_neg hl, List.filter_nil, List.append_nil]
        exact h2
  · rintro Hc ⟨h1, sm⟩
    rw [List.length_map, List.take_length] at h1
    have fl : (xs.filter (low tb xs)).length ≤ xs.length := List.length_filter_le _ _
    refine ⟨_, rfl, D, _, rfl, h1, by omega, fun ys q nd le me so hq => ?_⟩
    refine ⟨q, _, rfl, .inl ⟨SqL.of upd_same, fun r hr2 => ?_⟩⟩
    have s3 : Same H (upd (upd Hc q (.lst (ys.map V.str))) r (.tup (ys.map V.str))) := (sm.put (sm.free hq)).put ((sm.put (sm.free hq)).free hr2)
    refine k ys r _ ⟨nd, so, fun y => ?_⟩ ((sm.put (sm.free hq)).free hr2) upd_same s3
    rw [me, List.mem_filter]
    have : low tb xs y = true ↔ ∀ z ∈ xs, z ≠ y → y ∉ look tb z := by
      unfold low
      rw [Bool.not_eq_true', List.any_map, List.any_eq_false]
      constructor
      · intro h z hz ne hy
        have := h z hz
        simp [ne, hy] at this
      · intro h z hz
        simp only [Function.comp, id, Bool.and_eq_true, decide_eq_true_eq, not_and]
        exact fun ne => h z hz ne
    rw [this]
end
end K2
end
section
set_option Elab.async false
set_option maxRecDepth 100000
set_option linter.all false
namespace K2
open PySem L2
abbrev sIA : Stmt := inClass (top 24) 13
abbrev nIA : List Str := ["self", "name", "part", "one"]
def near (tb : Tb) (x o : Str) : Bool := decide (o ∈ look tb x) || decide (x ∈ look tb o)
def apart (tb : Tb) (x : Str) (xs : List Str) : Bool := !(xs.map (near tb x)).any id
def spIA (C : Addr) : Sp := fun vs H Q _ => ∃ (p t : Addr) (x : Str) (xs : List Str) (tb : Tb), vs = [.ref p, .str x, .ref t] ∧ ClsAt C H p tb ∧ H t = some (.tup (xs.map V.str)) ∧ x ∈ keys tb ∧ (∀ o ∈ xs, o ∈ keys tb) ∧ xs.length ≤ 40 ∧
  ∀ H', Same H H' → Q (.bl (apart tb x xs)) H'
section
variable {P : Program} {w : World} {K : PySem.W.Frag} {mg : Str → Option Value} {base : Heap}
theorem scIA : FnScope nIA ["self", "name", "part"] (defScope sIA) := ⟨rfl, rfl, rfl, by decide +kernel, rfl, by decide +kernel, by decide +kernel⟩
theorem ok_ia {f C fW : Addr} {fd fdW : FuncData} (F : Fun K "_is_apart" "Classes._is_apart" sIA f fd) (X : Txt K mg C) (T : Bi mg) (tAny : mg "any" = none)
    (mW : Meth K C "within" fW) (GW : FnOk P w K mg base CX0 1 fW fdW ["self", "one", "other"] (spWithin C)) (bW : Binds K fdW ["self", "one", "other"] []) : FnOk P w K mg base CX0 3 f fd ["self", "name", "part"] (spIA C) := by
  refine F.ok scIA (fun vs H Q E h => ?_) (fun cdv A outer s H vs Q E hr h => ?_)
  · obtain ⟨p, t, x, xs, tb, rfl, _⟩ := h
    rfl
  · obtain ⟨p, t, x, xs, tb, rfl, cl, ht, hx, hk, h40, k⟩ := h
    have hr1 : Room 1 _ := hr.mono (by decide)
    have hu := hu_of hr
    refine ⟨_, pss_one (ps_ret (pe_not (pe_callB (cr_any rfl) (by rfl) tAny (by decide +kernel) (pa_cons
      (pe_lc (own := [("one", 3)]) (g := gName 3) (tt := tYes) rfl scIA.nd (pi_tup (pv 2)) (blkOk_by (N := nIA) (sc := defScope sIA) (by decide +kernel)) (fun _ _ _ _ _ => pg_name (i := 3) scIA.nd rfl (Or.inl rfl)) (fun _ _ _ _ _ => pts_nil)
        (fun _ _ _ _ _ => pe_or (pe_meth (pv 0) X.cl mW GW hr1 bW .nil pass0 (pa_cons (pv 1) (pa_cons (pv 3) pa_nil))) (pe_one (pe_meth (pv 0) X.cl mW GW hr1 bW .nil pass0 (pa_cons (pv 3) (pa_cons (pv 1) pa_nil)))))) pa_nil)))), ?_⟩
    refine ⟨_, rfl, t, rfl, ⟨_, SqT.of ht⟩, fun D hD => ?_⟩
    refine lc_tup (K := K) (a := t) (xs := xs.map V.str) (fun j Hd => Hd D = some (.lst (((xs.take j).map (near tb x)).map V.bl)) ∧ Same H Hd) ?_ ?_ ?_ ?_
    · exact ⟨upd_same, (Same.refl H).put hD⟩
    · rintro j Hd _ ⟨_, sd⟩
      exact SqT.of (sd t _ ht)
    · rintro j y Hd hy ⟨g1, sd⟩
      have hjl : j < xs.length := by
        have := (List.getElem?_eq_some_iff.mp hy).1
        rwa [List.length_map] at this
      have hzj : xs[j]? = some xs[j] := List.getElem?_eq_getElem hjl
      rw [List.getElem?_map, hzj] at hy
      have hzk := hk xs[j] (List.getElem_mem hjl)
      have et : xs.take (j + 1) = xs.take j ++ [xs[j]] := by rw [List.take_add_one, hzj]; rfl
      generalize xs[j] = z at hzj hy hzk et
      cases hy
      obtain ⟨dx, fs, hp1, hp2⟩ := (cl.same sd).ins
      have hp2 := hp2 "within" (by decide +kernel) (by decide +kernel) (by decide +kernel)
      have fin : ∀ v : Bool, v = near tb x z → (List.map V.bl (List.map (near tb x) (List.take j xs))).length < sizeLine ∧
          (upd Hd D (.lst (List.map V.bl (List.map (near tb x) (List.take j xs)) ++ [V.bl v]))) D = some (.lst (List.map V.bl (List.map (near tb x) (List.take (j + 1) xs)))) := fun v e => by
        refine ⟨?_, ?_⟩
        · rw [List.length_map, List.length_map, List.length_take]; show _ < 16777216; omega
        · rw [upd_same, et, List.map_append, List.map_append, e]
          rfl
      refine ⟨rfl, _, rfl, p, dx, fs, rfl, hp1, hp2, _, rfl, _, rfl, p, x, z, tb, rfl, cl.same sd, hx, ?_⟩
      refine ⟨_, rfl, ite2 (fun h => ?_) (fun h => ?_)⟩
      · exact ⟨_, g1, (fin true (by unfold near; rw [h]; rfl)).1, (fin true (by unfold near; rw [h]; rfl)).2, sd.put hD⟩
      · have e : decide (z ∈ look tb x) = false := by simpa using h
        refine ⟨_, rfl, p, dx, fs, rfl, hp1, hp2, _, rfl, _, rfl, p, z, x, tb, rfl, cl.same sd, hzk, _, g1, (fin (decide (x ∈ look tb z)) ?_).1, (fin (decide (x ∈ look tb z)) ?_).2, sd.put hD⟩
        · unfold near; rw [e, Bool.false_or]
        · unfold near; rw [e, Bool.false_or]
    · rintro Hd ⟨g1, sd⟩
      rw [List.length_map, List.take_length] at g1
      exact ⟨D, _, rfl, SqL.of g1, _, rfl, k Hd sd⟩
end
end K2
end
section
set_option Elab.async false
set_option maxRecDepth 100000
set_option linter.all false
namespace K2
open PySem L2 PySem.Spec PyProof.Rows
/-! ### sorted of a list of tuples of texts -/
def tk (xs : List Str) : List (Int ⊕ List Nat) := xs.map fun x => Sum.inr x.cps.toList
theorem tk_inj : ∀ {xs ys : List Str}, tk xs = tk ys → xs = ys
  | [], [], _ => rfl
  | [], _ :: _, h => by simp [tk] at h
  | _ :: _, [], h => by simp [tk] at h
  | x :: xs, y :: ys, h => by
    simp only [tk, List.map_cons, List.cons.injEq] at h
    obtain ⟨h1, h2⟩ := h
    have e1 : x = y := by
      cases x with
      | mk a =>
        cases y with
        | mk b =>
          have : a.toList = b.toList := Sum.inr.inj h1
          rw [show a = b from Array.ext' this]
    rw [e1, tk_inj (xs := xs) (ys := ys) h2]
/-- not behind: xs may stand ahead of ys -/
def tle (xs ys : List Str) : Prop := lexLt itemOrd (tk ys) (tk xs) = false
theorem tle_anti {xs ys : List Str} (h1 : tle xs ys) (h2 : tle ys xs) : xs = ys := tk_inj (lex_total (O := itemOrd) _ _ h2 h1)
/-- two ascending rows of the same are one -/
theorem asc_one : ∀ {as bs : List (List Str)}, as.Perm bs → as.Pairwise tle → bs.Pairwise tle → as = bs
  | [], bs, p, _, _ => (List.nil_perm.mp p).symm
  | a :: as, [], p, _, _ => absurd p.length_eq (by simp)
  | a :: as, b :: bs, p, h1, h2 => by
    obtain ⟨a1, a2⟩ := List.pairwise_cons.mp h1
    obtain ⟨b1, b2⟩ := List.pairwise_cons.mp h2
    have e : a = b := by
      rcases List.mem_cons.mp (p.mem_iff.mp (List.mem_cons_self : a ∈ a :: as)) with e | ha
      · exact e
      · rcases List.mem_cons.mp (p.mem_iff.mpr (List.mem_cons_self : b ∈ b :: bs)) with e | hb
        · exact e.symm
        · exact tle_anti (a1 b hb) (b1 a ha)
    subst e
    rw [asc_one p.cons_inv a2 b2]
/-- the texts of the tuple at b -/
def strsAt (H : Hp) (b : Addr) : List Str := match H b with
  | some (.tup vs) => vs.filterMap fun v => match v with | .str x => some x | _ => none
  | _ => []
theorem strsAt_of {H : Hp} {b : Addr} {xs : List Str} (h : H b = some (.tup (xs.map V.str))) : strsAt H b = xs := by
  unfold strsAt
  rw [h]
  show List.filterMap _ (xs.map V.str) = xs
  rw [List.filterMap_map]
  induction xs with
  | nil => rfl
  | cons x xs ih => 
    rw [List.filterMap_cons]
    show x :: _ = _
    rw [show List.filterMap _ xs = xs from ?_]
    clear h ih
    induction xs with
    | nil => rfl
    | cons y ys ih => 
      rw [List.filterMap_cons]
      show y :: _ = _
      rw [ih]
def rSortedTS (K : PySem.W.Frag) : List V → Hp → VK → Prop := fun vs H Q => ∃ (a : Addr) (as : List Addr), vs = [V.ref a] ∧ SqL K H a (as.map V.ref) ∧ (∀ b ∈ as, ∃ xs : List Str, xs ≠ [] ∧ H b = some (.tup (xs.map V.str))) ∧
  ∀ (bs : List Addr) (p : Addr), bs.Perm as → (bs.map (strsAt H)).Pairwise tle → H p = none → Q (.ref p) (upd H p (.lst (bs.map V.ref)))
section
variable {X : Cx} {pins : List (Addr × Obj)} {σ : L2.St} {H : Hp} {s : Shared}
theorem items_strs : ∀ (xs : List Str) (its : List Value) (i : Nat), Vals (xs.map V.str) its → tupItems (fun _ => true) i its = some (tk xs)
  | [], _, _, r => by cases r; rfl
  | x :: xs, _, i, r => by
    cases r with
    | @cons _ u _ us r1 r2 =>
      obtain ⟨t, rfl⟩ : ∃ t, u = Value.str x t := r1
      show (if true = true then (tupItems (fun _ => true) (i + 1) us).map (Sum.inr x.cps.toList :: ·) else none) = _
      rw [if_pos rfl, items_strs xs us (i + 1) r2]
      rfl
theorem key_at (I : Inv X pins σ H s) {b : Addr} {xs : List Str} (h : H b = some (.tup (xs.map V.str))) : G.tupKeyC s.heap (fun _ => true) (.ref b) = some (tk xs) ∧ (xs ≠ [] → ∃ f, TupOf s.heap (fun _ => true) (.ref b) f) := by
  obtain ⟨its, rv, ⟨o, ho, hc, n, hd⟩, _⟩ := I.tuple (SqT.of (K := X.K) h)
  have e := items_strs xs its 0 rv
  refine ⟨?_, fun hne => ?_⟩
  · unfold G.tupKeyC
    have e1 : G.isTupObj s.heap (.ref b) = true := by simp [G.isTupObj, ho, hc]
    rw [if_pos e1]
    simp only [tupKey, ho, hd]
    exact e
  · cases xs with
    | nil => exact absurd rfl hne
    | cons x xs =>
      cases rv with
      | @cons _ u _ us r1 r2 =>
        obtain ⟨t, rfl⟩ : ∃ t, u = Value.str x t := r1
        exact ⟨.str x t, b, o, _, n, rfl, ho, hc, hd, rfl, fun h => absurd h (by decide), fun _ => ⟨x, t, rfl⟩⟩
theorem tups_of (I : Inv X pins σ H s) : ∀ (as : List Addr), (∀ b ∈ as, ∃ xs : List Str, xs ≠ [] ∧ H b = some (.tup (xs.map V.str))) → ∃ fs, TupsOf s.heap (fun _ => true) (as.map Value.ref) fs
  | [], _ => ⟨[], .nil⟩
  | b :: as, h => by
    obtain ⟨fs, t⟩ := tups_of I as fun c hc => h c (List.mem_cons_of_mem _ hc)
    obtain ⟨xs, hne, hb⟩ := h b List.mem_cons_self
    obtain ⟨f, hf⟩ := (key_at I hb).2 hne
    exact ⟨f :: fs, .cons hf t⟩
theorem vals_refs : ∀ {as : List Addr} {us : List Value}, Vals (as.map V.ref) us → us = as.map Value.ref
  | [], _, r => by cases r; rfl
  | a :: as, _, r => by
    cases r with
    | @cons _ u _ us r1 r2 =>
      obtain rfl : u = Value.ref a := r1
      rw [List.map_cons, vals_refs r2]
theorem refs_vals : ∀ (as : List Addr), Vals (as.map V.ref) (as.map Value.ref)
  | [] => .nil
  | a :: as => .cons (show RelV (.ref a) (.ref a) from rfl) (refs_vals as)
theorem map_refs : ∀ (us : List Value) (as : List Addr), us.Perm (as.map Value.ref) → ∃ bs : List Addr, us = bs.map Value.ref ∧ bs.Perm as := by
  intro us as p
  have h : ∀ u ∈ us, ∃ b, u = Value.ref b := fun u hu => by
    obtain ⟨b, _, e⟩ := List.mem_map.mp (p.mem_iff.mp hu)
    exact ⟨b, e.symm⟩
  obtain ⟨bs, e⟩ : ∃ bs : List Addr, us = bs.map Value.ref := by
    clear p
    induction us with
    | nil => exact ⟨[], rfl⟩
    | cons u us ih =>
      obtain ⟨b, rfl⟩ := h u List.mem_cons_self
      obtain ⟨bs, e⟩ := ih fun v hv => h v (List.mem_cons_of_mem _ hv)
      exact ⟨b :: bs, by rw [e]; rfl⟩
  refine ⟨bs, e, ?_⟩
  rw [e] at p
  have q := p.map fun v => match v with | Value.ref b => b | _ => 0
  rw [List.map_map, List.map_map] at q
  have i : ∀ l : List Addr, List.map ((fun v => match v with | Value.ref b => b | _ => 0) ∘ Value.ref) l = l := fun l => by
    induction l with
    | nil => rfl
    | cons x l ih => rw [List.map_cons, ih]; rfl
  rw [i, i] at q
  exact q
theorem cr_sortedTS : CallR X (.builtin "sorted") (rSortedTS X.K) := by
  intro pins s σ H vs us Q I r h
  obtain ⟨a, as, rfl, hs, hx, q⟩ := h
  obtain ⟨its, rv, hl, hz⟩ := I.list hs
  rw [Vals.ref1 r]
  have ei := vals_refs rv
  rw [List.length_map] at hz
  obtain ⟨fs, ht⟩ := tups_of I as hx
  have kat : ∀ b ∈ as, G.tupKeyC s.heap (fun _ => true) (.ref b) = some (tk (strsAt H b)) := fun b hb => by
    obtain ⟨xs, _, e⟩ := hx b hb
    rw [strsAt_of e]
    exact (key_at I e).1
  refine G.sorted_tups (shape := fun _ => true) (fs := fs) hl.isList (by rw [ei]; exact ht) (fun v hv => ?_) (by rw [ei, List.length_map]; exact hz) fun st h1 h2 _ => ?_
  · rw [ei] at hv
    obtain ⟨b, hb, rfl⟩ := List.mem_map.mp hv
    exact ⟨_, kat b hb⟩
  · have p1 : ((arrOf st).toList).Perm (its.zip its) := by
      rw [← pairsOf_toList]
      exact Array.perm_iff_toList_perm.mp h1
    have p2 : ((arrOf st).toList.map Prod.snd).Perm (as.map Value.ref) := by
      have z := p1.map Prod.snd
      rw [List.map_snd_zip (Nat.le_refl _), ei] at z
      exact z
    obtain ⟨bs, eb, pb⟩ := map_refs _ _ p2
    have ms : ∀ p ∈ (arrOf st).toList, p.1 = p.2 := fun p hp => (mem_zip_self (p1.mem_iff.mp hp)).1
    have ez : (arrOf st).size = (pairsOf its).size := h1.size_eq
    obtain ⟨ep, he'⟩ := PyProof.Rows.sortedAll_at s.heap its ((arrOf st).map (·.2))
    have hlen : (bs.map V.ref).length ≤ sizeLine := by rw [List.length_map, pb.length_eq]; exact hz
    refine ⟨.ref _, upd H (s.heap.objs.size + 1) (.lst (bs.map V.ref)), I.laid (t' := s.toks) (fun _ _ => PyProof.Rows.sortedAll_old) (Nat.le_succ _) ⟨hlen, bs.map Value.ref, ep, refs_vals bs, ?_⟩, rfl, q bs _ pb ?_ (I.hok.fresh (Nat.le_succ _))⟩
    · have e2 : (arrOf st).map (·.2) = (bs.map Value.ref).toArray := by
        apply Array.ext'
        rw [Array.toList_map, ← eb]
      rw [← e2]
      exact he'
    · rw [List.pairwise_iff_getElem]
      intro i j hi hj hij
      rw [List.length_map] at hi hj
      have hlb : bs.length = (arrOf st).size := by
        have := congrArg List.length eb
        rw [List.length_map, List.length_map, Array.length_toList] at this
        exact this.symm
      have key : ∀ i (h : i < bs.length), KK (G.tupKindC s.heap fun _ => true) (arrOf st) i = tk (strsAt H bs[i]) := fun i h => by
        have hi2 : i < (arrOf st).size := by omega
        have e0 : (arrOf st)[i]? = some (arrOf st)[i] := Array.getElem?_eq_getElem hi2
        have e1 : ((arrOf st).toList.map Prod.snd)[i]? = (bs.map Value.ref)[i]? := by rw [eb]
        have e3 : (arrOf st)[i].2 = Value.ref bs[i] := by
          rw [List.getElem?_map, List.getElem?_map, Array.getElem?_toList, e0, List.getElem?_eq_getElem h] at e1
          exact Option.some.inj e1
        have e4 : (arrOf st)[i].1 = Value.ref bs[i] := by
          rw [ms _ (by rw [Array.mem_toList_iff]; exact Array.getElem_mem hi2)]
          exact e3
        unfold KK
        rw [e0]
        show ((G.tupKindC s.heap fun _ => true).keyOf (arrOf st)[i].1).getD _ = _
        rw [e4]
        show (G.tupKeyC s.heap (fun _ => true) (.ref bs[i])).getD _ = _
        rw [kat _ (pb.mem_iff.mp (List.getElem_mem h))]
        rfl
      have z := h2 i j (Nat.le_of_lt hij) (by rw [← ez]; omega)
      rw [key i hi, key j hj] at z
      rw [List.getElem_map, List.getElem_map]
      exact z
end
end K2
end
section
set_option Elab.async false
set_option maxRecDepth 100000
set_option linter.all false
namespace K2
open PySem L2 PySem.Spec PyProof.Rows
section
variable {prog : Program} {w : World} {A : Around} {E : Value → Shared → Prop} {s : Shared}
theorem collect_tup {l : Addr} {vs : List Value} {Q : List Value → Shared → Prop} (hl : IsTup s.heap l vs.toArray)
    (h : Q vs { s with heap := (s.heap.push (seqObj "list" #[] 0)).update s.heap.objs.size (Obj.mapSeq (· ++ vs.toArray)) }) (hsz : vs.length ≤ sizeLine := by size_fits) :
    wpAny (model prog w) A (collect (.ref l)) Q E s := by
  obtain ⟨o, ho, hc, n, hd⟩ := id hl
  unfold collect
  refine wpAny_bind (wpAny_runValue (codeAny_builtin entry_proto_collect' ?_))
  show wpAny _ _ (do again (.builtin "list.__iadd__" ⟨[← newList [], .ref l], []⟩)) _ _ s
  refine wpAny_bind (wpAny_newList (wpAny_pure ⟨Code.quiet_builtin _ (by decide +kernel), codeAny_builtin entry_list_iadd' ?_⟩))
  show wpAny _ _ (Builtin.List.listExtendWith (.ref s.heap.objs.size) (.ref l) (.ref s.heap.objs.size)) _ _ { s with heap := s.heap.push (seqObj "list" #[] 0) }
  unfold Builtin.List.listExtendWith
  have ho' : (s.heap.push (seqObj "list" #[] 0)).get? l = some o := Heap.get?_push_of_some _ ho
  refine wpAny_bind (wpAny_typeOf (T := "tuple") ⟨o, ho', hc⟩ ?_)
  have ht : (Value.type "tuple" == Value.type "tuple") = true := by rfl
  rw [if_pos (by rw [ht]; simp)]
  refine wpAny_bind (listItems_at ho' hd ?_)
  refine wpAny_bind (listItems_at (xs := #[]) (n := 0) (Heap.get?_push_size _ rfl) rfl ?_)
  rw [if_neg (by simp)]
  refine wpAny_bind (listUpdate_at (xs := #[]) (n := 0) (Heap.get?_push_size _ rfl) rfl ?_ (Nat.zero_le _) (by show (#[] ++ vs.toArray).size ≤ sizeLine + 1; simp only [Array.size_append, List.size_toArray, List.length_nil]; omega))
  refine wpAny_pure ?_
  show wpAny (model prog w) A (do
      let o ← load s.heap.objs.size
      match o.data with
      | .seq xs _ => pure xs.toList
      | _ => unsupported "internal:collect") Q E { s with heap := (s.heap.push (seqObj "list" #[] 0)).update s.heap.objs.size (Obj.mapSeq (· ++ vs.toArray)) }
  refine wpAny_bind (wpAny_load (get?_update_seq (Heap.get?_push_size _ rfl) _) ?_)
  show wpAny _ _ (pure ((#[] : Array Value) ++ vs.toArray).toList) Q E _
  rw [show ((#[] : Array Value) ++ vs.toArray).toList = vs by simp]
  exact wpAny_pure h
theorem sorted_strs_tup {t : Addr} {vs : List Value} {ss : List Str} {Q : Value → Shared → Prop} (ht : IsTup s.heap t vs.toArray) (hS : StrsAre vs ss) (h64 : vs.length < 64)
    (h : ∀ (a : Addr) (h' : Heap) (out : Array Value) (ss' : List Str) (e : Nat), s.heap.objs.size ≤ a → (∀ b o, s.heap.get? b = some o → h'.get? b = some o) → h'.get? a = some (seqObj "list" out e) → StrsAre out.toList ss' → ss'.Perm ss → sortedS ss' = true → Q (.ref a) { s with heap := h' }) :
    wpAny (model prog w) A (call (.builtin "sorted") [.ref t]) Q E s := by
  refine Calls.call_function_entry kind_sorted plain_sorted entry_sorted (args_sorted1 _) ?_
  unfold Builtin.«sorted»
  refine wpAny_bind (m := checkCount "sorted" 1 1 _) (wpAny_pure ?_)
  refine wpAny_bind (collect_tup ht ?_ (by rw [sizeLine_eq]; omega))
  refine wpAny_bind (wpAny_newList ?_ (by show vs.length ≤ _; rw [sizeLine_eq]; omega))
  have hsz : ((s.heap.push (seqObj "list" #[] 0)).update s.heap.objs.size (Obj.mapSeq (· ++ vs.toArray))).objs.size = s.heap.objs.size + 1 := by
    rw [Heap.size_update, size_push']
  have hoL : (((s.heap.push (seqObj "list" #[] 0)).update s.heap.objs.size (Obj.mapSeq (· ++ vs.toArray))).push (seqObj "list" vs.toArray 0)).get? (s.heap.objs.size + 1) = some (seqObj "list" vs.toArray 0) := by
    rw [← hsz]; exact Heap.get?_push_size _ rfl
  show wpAny _ _ _ _ _ { s with heap := ((s.heap.push (seqObj "list" #[] 0)).update s.heap.objs.size (Obj.mapSeq (· ++ vs.toArray))).push (seqObj "list" vs.toArray 0) }
  rw [hsz]
  refine wpAny_bind (wpAny_holding (wpAny_call_entry slot_list_sort ⟨_, hoL, rfl⟩ entry_list_sort (list_sort_treeK (vs := vs) strKind_oneLt hoL hS.keysOf (fun v₁ v₂ rest e => keyKind_strs (by rw [← e]; exact hS)) h64 fun st' hp hs => ⟨_, rfl, ?_⟩) (args_list_sort _)))
  obtain ⟨ss', e1, e2, e3⟩ := sorted_out_str hS hp hs
  obtain ⟨ep, he⟩ := sortedAll_at s.heap vs ((arrOf st').map (·.2))
  exact wpAny_pure ⟨_, rfl, h _ _ _ ss' ep (Nat.le_succ _) (fun b o e => sortedAll_old e) he e1 e2 e3⟩
end
def rSortedST (K : PySem.W.Frag) : List V → Hp → VK → Prop := fun vs H Q => ∃ (t : Addr) (xs : List Str), vs = [V.ref t] ∧ SqT K H t (xs.map V.str) ∧ xs.length < 64 ∧
  ∀ (ys : List Str) (p : Addr), ys.Perm xs → sortedS ys = true → H p = none → Q (.ref p) (upd H p (.lst (ys.map V.str)))
theorem cr_sortedST {X : Cx} : CallR X (.builtin "sorted") (rSortedST X.K) := by
  intro pins s σ H vs us Q I r h
  obtain ⟨t, xs, rfl, hs, h64, q⟩ := h
  obtain ⟨its, rv, ht, hz⟩ := I.tuple hs
  rw [Vals.ref1 r]
  have hl0 := rv.length
  rw [List.length_map] at hl0
  refine sorted_strs_tup ht rv.strs (by omega) fun a h' out ys ep ha kp he h1 h2 h3 => ?_
  have hlen : (ys.map V.str).length ≤ sizeLine := by rw [List.length_map, h2.length_eq, sizeLine_eq]; omega
  exact ⟨.ref a, upd H a (.lst (ys.map V.str)), I.laid (t' := s.toks) kp ha ⟨hlen, out.toList, ep, vals_of_strs h1, he⟩, rfl, q ys _ h2 h3 (I.hok.fresh ha)⟩
end K2
end
section
set_option Elab.async false
set_option maxRecDepth 100000
set_option linter.all false
namespace K2
open PySem L2
/-- all kinds, as the program grows them -/
def stepK (tb : Tb) (ps : List (List Str)) (n : Str) : List (List Str) := ps ++ (ps.filter fun p => apart tb n p).map fun p => p ++ [n]
def growK (tb : Tb) (S : List Str) : List (List Str) := S.foldl (stepK tb) [[]]
/-- the texts of S at the ones of the mask m -/
def masked (S : List Str) (m : Nat) : List Str := ((List.range S.length).filter fun k => decide (m / 2 ^ k % 2 = 1)).filterMap fun k => S[k]?
/-- no one of them has another one above it -/
def indep (tb : Tb) (xs : List Str) : Bool := xs.all fun one => decide (xs.filter (fun two => decide (two ≠ one) && decide (one ∈ look tb two)) = [])
def allM (S : List Str) : List (List Str) := (List.range (2 ^ S.length)).map (masked S)
theorem fm_congr {α β : Type} {f g : α → Option β} : ∀ {l : List α}, (∀ x ∈ l, f x = g x) → l.filterMap f = l.filterMap g
  | [], _ => rfl
  | x :: l, h => by
    rw [List.filterMap_cons, List.filterMap_cons, h x List.mem_cons_self, fm_congr fun y hy => h y (List.mem_cons_of_mem _ hy)]
theorem masked_snoc_low (S : List Str) (x : Str) (m : Nat) (h : m < 2 ^ S.length) : masked (S ++ [x]) m = masked S m := by
  unfold masked
  rw [List.length_append, List.length_singleton, List.range_succ, List.filter_append, List.filterMap_append]
  have e : [S.length].filter (fun k => decide (m / 2 ^ k % 2 = 1)) = [] := by
    rw [List.filter_cons, if_neg (by rw [Nat.div_eq_of_lt h]; decide), List.filter_nil]
  rw [e, List.filterMap_nil, List.append_nil]
  apply fm_congr
  intro k hk
  have := List.mem_range.mp (List.mem_filter.mp hk).1
  rw [List.getElem?_append_left this]
theorem masked_snoc_high (S : List Str) (x : Str) (m : Nat) (h : m < 2 ^ S.length) : masked (S ++ [x]) (m + 2 ^ S.length) = masked S m ++ [x] := by
  unfold masked
  rw [List.length_append, List.length_singleton, List.range_succ, List.filter_append, List.filterMap_append]
  have p0 : 0 < 2 ^ S.length := Nat.pow_pos (by decide)
  have e : [S.length].filter (fun k => decide ((m + 2 ^ S.length) / 2 ^ k % 2 = 1)) = [S.length] := by
    rw [List.filter_cons, if_pos, List.filter_nil]
    rw [Nat.add_div_right _ p0, Nat.div_eq_of_lt h]
    rfl
  rw [e]
  have e2 : [S.length].filterMap (fun k => (S ++ [x])[k]?) = [x] := by simp
  rw [e2]
  congr 1
  have e3 : (List.range S.length).filter (fun k => decide ((m + 2 ^ S.length) / 2 ^ k % 2 = 1)) = (List.range S.length).filter (fun k => decide (m / 2 ^ k % 2 = 1)) := by
    apply List.filter_congr
    intro k hk
    have hk := List.mem_range.mp hk
    have : 2 ^ S.length = 2 ^ k * (2 * 2 ^ (S.length - k - 1)) := by
      rw [← Nat.pow_succ', ← Nat.pow_add]
      congr 1
      omega
    rw [this, Nat.add_mul_div_left _ _ (Nat.pow_pos (by decide)), Nat.add_mul_mod_self_left]
  rw [e3]
  apply fm_congr
  intro k hk
  have := List.mem_range.mp (List.mem_filter.mp hk).1
  rw [List.getElem?_append_left this]
theorem allM_snoc (S : List Str) (x : Str) : allM (S ++ [x]) = allM S ++ (allM S).map fun p => p ++ [x] := by
  unfold allM
  rw [List.length_append, List.length_singleton, Nat.pow_succ, Nat.mul_two, List.range_add, List.map_append, List.map_map, List.map_map]
  congr 1
  · apply List.map_congr_left
    intro m hm
    exact masked_snoc_low S x m (List.mem_range.mp hm)
  · apply List.map_congr_left
    intro m hm
    show masked (S ++ [x]) (2 ^ S.length + m) = masked S m ++ [x]
    rw [Nat.add_comm]
    exact masked_snoc_high S x m (List.mem_range.mp hm)
theorem masked_sub (S : List Str) (m : Nat) : ∀ y ∈ masked S m, y ∈ S := fun y hy => by
  obtain ⟨k, _, e⟩ := List.mem_filterMap.mp hy
  exact List.mem_of_getElem? e
theorem indep_snoc (tb : Tb) (y : List Str) (x : Str) (hx : x ∉ y) : indep tb (y ++ [x]) = (indep tb y && apart tb x y) := by
  rw [Bool.eq_iff_iff, Bool.and_eq_true]
  unfold indep apart
  rw [List.all_eq_true, List.all_eq_true, Bool.not_eq_true', List.any_map, List.any_eq_false]
  have key : ∀ (l : List Str) (one : Str), decide (l.filter (fun two => decide (two ≠ one) && decide (one ∈ look tb two)) = []) = true ↔ ∀ two ∈ l, two ≠ one → one ∉ look tb two := fun l one => by
    rw [decide_eq_true_iff, List.filter_eq_nil_iff]
    simp
  simp only [key]
  constructor
  · intro h
    refine ⟨fun one h1 two h2 => h one (List.mem_append_left _ h1) two (List.mem_append_left _ h2), fun o ho => ?_⟩
    have n : o ≠ x := fun e => hx (e ▸ ho)
    have a := h x (List.mem_append_right _ (List.mem_singleton.mpr rfl)) o (List.mem_append_left _ ho) n
    have b := h o (List.mem_append_left _ ho) x (List.mem_append_right _ (List.mem_singleton.mpr rfl)) (Ne.symm n)
    simp [near, a, b]
  · rintro ⟨h1, h2⟩ one m1 two m2 ne
    rcases List.mem_append.mp m1 with a1 | a1 <;> rcases List.mem_append.mp m2 with a2 | a2
    · exact h1 one a1 two a2 ne
    · obtain rfl := List.mem_singleton.mp a2
      have := h2 one a1
      simp [near] at this
      exact this.1
    · obtain rfl := List.mem_singleton.mp a1
      have := h2 two a2
      simp [near] at this
      exact this.2
    · rw [List.mem_singleton.mp a1, List.mem_singleton.mp a2] at ne
      exact absurd rfl ne
theorem growK_snoc (tb : Tb) (S : List Str) (x : Str) : growK tb (S ++ [x]) = stepK tb (growK tb S) x := by unfold growK; rw [List.foldl_append]; rfl
/-- what is grown is what the masks give -/
theorem grow_all (tb : Tb) (S : List Str) (nd : S.Nodup) : growK tb S = (allM S).filter (indep tb) := by
  have rev : ∀ R : List Str, R.reverse.Nodup → growK tb R.reverse = (allM R.reverse).filter (indep tb) := fun R => by
    induction R with
    | nil => intro _; rfl
    | cons x R ih =>
      intro nd
      rw [List.reverse_cons] at nd ⊢
      have nd' := List.nodup_append.mp nd
      have hx : x ∉ R.reverse := fun h => nd'.2.2 x h x (List.mem_singleton.mpr rfl) rfl
      rw [growK_snoc, ih nd'.1, allM_snoc, List.filter_append]
      unfold stepK
      congr 1
      rw [List.filter_map, List.filter_filter]
      congr 1
      apply List.filter_congr
      intro p hp
      obtain ⟨m, _, rfl⟩ := List.mem_map.mp hp
      show (apart tb x (masked R.reverse m) && indep tb (masked R.reverse m)) = indep tb (masked R.reverse m ++ [x])
      rw [indep_snoc tb _ x fun h => hx (masked_sub _ _ _ h), Bool.and_comm]
  have := rev S.reverse (by rw [List.reverse_reverse]; exact nd)
  rwa [List.reverse_reverse] at this
theorem masked_zero (S : List Str) : masked S 0 = [] := by
  unfold masked
  rw [show (List.range S.length).filter (fun k => decide (0 / 2 ^ k % 2 = 1)) = [] from List.filter_eq_nil_iff.mpr fun k _ => by simp]
  rfl
/-- without the first, which is empty -/
theorem grow_tail (tb : Tb) (S : List Str) (nd : S.Nodup) : growK tb S = [] :: ((List.range (2 ^ S.length - 1)).map fun m => masked S (m + 1)).filter (indep tb) := by
  rw [grow_all tb S nd]
  unfold allM
  have : 2 ^ S.length = (2 ^ S.length - 1) + 1 := (Nat.sub_add_cancel (Nat.pow_pos (by decide))).symm
  rw [this, List.range_succ_eq_map, List.map_cons, List.map_map, masked_zero, List.filter_cons, if_pos (by rfl)]
  rfl
theorem masked_ne (S : List Str) (m : Nat) (h0 : 0 < m) (h : m < 2 ^ S.length) : masked S m ≠ [] := by
  have rev : ∀ (R : List Str) (m : Nat), 0 < m → m < 2 ^ R.reverse.length → masked R.reverse m ≠ [] := fun R => by
    induction R with
    | nil => intro m h0 h; simp at h; omega
    | cons x R ih =>
      intro m h0 h
      rw [List.reverse_cons] at h ⊢
      rw [List.length_append, List.length_singleton, Nat.pow_succ] at h
      by_cases hm : m < 2 ^ R.reverse.length
      · rw [masked_snoc_low _ _ _ hm]
        exact ih m h0 hm
      · have e : m = (m - 2 ^ R.reverse.length) + 2 ^ R.reverse.length := by omega
        rw [e, masked_snoc_high _ _ _ (by omega)]
        simp
  have := rev S.reverse m h0 (by rwa [List.reverse_reverse])
  rwa [List.reverse_reverse] at this
end K2
end
section
set_option Elab.async false
set_option maxRecDepth 100000
set_option linter.all false
set_option maxHeartbeats 2000000
/-! ### a caught error that is kept -/
namespace L2
open PySem PySem.Spec PyProof.Rows
/-- an exception of the class cls, caught and kept, its dict at d -/
def ExT (cls : Value) (d : Option Addr) (a : Addr) : HO := .ext fun h => ∃ (oe : Obj) (vs : Array Value), h.get? a = some oe ∧ Zc cls d oe ∧ oe.data = .fields vs
theorem exT_ok {P : Program} {w : World} {H : Hp} {h : Heap} {a : Addr} {cls : Value} {d : Option Addr} {oe : Obj} {vs : Array Value} (e : h.get? a = some oe) (z : Zc cls d oe) (hd : oe.data = .fields vs) : ObjOk P w H h a (ExT cls d a) :=
  ⟨⟨oe, vs, e, z, hd⟩, ⟨_, e⟩, fun h1 h2 q k => by
    obtain ⟨oe, vs, e, z⟩ := q
    exact ⟨oe, vs, k _ e, z⟩⟩
theorem exT_at {P : Program} {w : World} {H : Hp} {h : Heap} {a : Addr} {cls : Value} {d : Option Addr} (hok : HOk P w H h) (he : H a = some (ExT cls d a)) : ∃ (oe : Obj) (vs : Array Value), h.get? a = some oe ∧ Zc cls d oe ∧ oe.data = .fields vs := by
  have x : ObjOk P w H h a (.ext fun h => ∃ (oe : Obj) (vs : Array Value), h.get? a = some oe ∧ Zc cls d oe ∧ oe.data = .fields vs) := hok a _ he
  exact x.1
section
variable {X : Cx} {pins : List (Addr × Obj)} {σ : St} {H : Hp} {s s' sI : Shared} {B : Heap} {a : Addr} {o : HO}
theorem Inv.landedT (I : Inv X pins σ H sI) (nb : ∀ b o, sI.heap.get? b = some o → b ∉ frs X.stack → B.get? b = some o) (st : B.StaysIn s'.heap) (up : sI.heap.UpToSlots s'.heap) (os : s'.os = sI.os) (ag : AllBare s'.gens)
    (na : H a = none) (ha : sI.heap.get? a = none) (new : ObjOk X.prog X.w (upd H a o) s'.heap a o) : Inv X pins σ (upd H a o) s' := by
  have nf : ∀ b ∈ frs X.stack, ∀ o, sI.heap.get? b = some o → ∃ sl, s'.heap.get? b = some { o with slots := sl } := fun b hb o e => by
    obtain ⟨_, o', e', hd⟩ := I.stack.mem hb
    rw [e] at e'; cases e'
    exact up b o e hd
  have ne : ∀ b u, sI.heap.get? b = some u → b ≠ a := fun b u e z => by
    rw [z, ha] at e
    cases e
  have hk : HOk X.prog X.w H s'.heap := (I.inGround nb).kept st
  have J := I.call (ch := []) (h' := s'.heap) (g' := s'.gens) (t' := s'.toks) (d' := s'.drawn) (H' := upd H a o)
    ⟨fun b o e _ hb _ => st b o (nb b o e hb), fun b o e _ hb _ => nf b hb o e, fun b u e n _ => by rw [upd_ne (ne b u e)]; exact n, fun b o e _ => by
      by_cases hb : b ∈ frs X.stack
      · obtain ⟨sl, q⟩ := nf b hb o e
        exact ⟨_, q⟩
      · exact ⟨o, st b o (nb b o e hb)⟩, fun b _ e => by rw [upd_ne (ne_of_none e na)]; exact e, fun b _ _ e => by rw [upd_ne (ne_of_none e na)]; exact e, fun b ps e => ⟨#[], by rw [upd_ne (ne_of_none e na), e]; simp⟩⟩
    (hk.laidN (fun _ _ e => e) na new) ag (fun _ z => nomatch z)
  obtain ⟨a1, a2, a3, a4, a5⟩ := s'
  have e5 : a5 = sI.os := os
  subst e5
  exact J
theorem Inv.suiteT (I : Inv X pins σ H s) (a : Addr) : Inv (X.suite a (X.pn ++ pins)) [] σ H s :=
  ⟨I.ok.suite _ _, I.os, I.bare, I.base, I.loc, I.cell, I.free, I.freeC, fun p hp => I.pin p (by rw [List.append_nil] at hp; exact hp), I.hok, I.len⟩
theorem Inv.unsuiteT {pn' : List (Addr × Obj)} (I : Inv (X.suite a (X.pn ++ pins)) pn' σ H s) (ok : X.Ok) : Inv X pins σ H s :=
  ⟨ok, I.os, I.bare, I.base, I.loc, I.cell, I.free, I.freeC, fun p hp => I.pin p (List.mem_append_left _ hp), I.hok, I.len⟩
end
/-- what the clause 'except x as n' wishes of an exception that is kept -/
def wAsT (K : PySem.W.Frag) (c : Value) (n i : Nat) (ts : Addr → Value → Option Addr → TS) (Wout : WX) (D : Ends) : WX := fun cls d σ H => σ.length = n →
  ∃ b, PySem.W.exmOne K cls c = some b ∧ (b = true → ∀ a, H a = none → ts a cls d { nx := fun σ' H' => D.nx (σ'.set i none) H', rt := D.rt, bk := fun σ' H' => D.bk (σ'.set i none) H', ct := fun σ' H' => D.ct (σ'.set i none) H' } (σ.set i (some (.ref a))) (upd H a (ExT cls d a))) ∧
    (b = false → Wout cls d σ H)
section
variable {X : Cx} {x n : Str} {c : Value} {i : Nat} {body suite : List Stmt} {b₀ : Stmt} {np pos pos' : Pos} {tb : WX → TS} {ts : Addr → Value → Option Addr → TS} {Wout : WX}
theorem ps_try_asT (hs : X.stack = X.env :: X.outer) (hf : X.env.frame = some X.env.locals) (hN : X.N.Nodup) (hi : X.N[i]? = some n) (hln : X.env.kindOf n = some .local) (hc : Names X x c) (tk : Takes X Wout)
    (hb : ∀ (W : WX) (pn : List (Addr × Obj)) (xe : Value → Shared → Prop), Takes (X.tr pn xe) W → PassesOwn (model X.prog X.w) X.A X.env xe → PSs (X.tr pn xe) body (tb W))
    (hsu : ∀ (a : Addr) (cls : Value) (d : Option Addr) (pn : List (Addr × Obj)), PSs (X.suite a pn) (b₀ :: suite) (ts a cls d)) :
    PS X (.Try body [.ExceptHandler (some (.Name x np)) (some n) (b₀ :: suite) pos'] [] [] pos) (fun D σ H => tb (wAsT X.K c X.N.length i ts Wout D) D σ H) := by
  refine ⟨fun pins s σ H D I h => ?_⟩
  have ok := I.ok
  have hfr : X.A.frames = some (X.env :: X.outer) := by rw [ok.frames, hs]
  have hloc : Loc X.env.scope n := .inl hln
  refine wpAny_Try_except ?_
  refine wpAny_mono ((hb (wAsT X.K c X.N.length i ts Wout D) (X.pn ++ pins) (fun e s₁ => wpAny (model X.prog X.w) X.A (noteFrame e X.env) (fun _ s₂ => wpAny (model X.prog X.w) X.A (setFlight e none) (fun _ s₃ =>
    wpAny (model X.prog X.w) X.A (handleBy e X.env [.ExceptHandler (some (.Name x np)) (some n) (b₀ :: suite) pos']) (SP X pins D) X.xe s₃) X.xe s₂) X.xe s₁) (fun u s' xx => ?_) PassesOwn.looking).run [] s σ H D (I.toTry _) h) (fun f s1 hsp => ?_) (fun e s1 he => he)
  · -- the catch
    obtain ⟨a, B, sI, pins', σ', H', cls, d, rfl, J', nb, up, sky, na, os, ag, hwish⟩ := xx
    have J : Inv X pins σ' H' sI := J'.ofTry ok
    obtain ⟨b, hb1, hyes, hno⟩ := hwish J.len
    have sky' : Sky B (X.env :: X.outer) a (Zc cls d) X.env.locals s'.heap := by rw [← hs]; exact sky
    show wpAny (model X.prog X.w) X.A (noteFrame (.ref a) X.env) _ _ _
    refine Sky.land Zc.steady hfr hf sky' fun h3 fl3 up3 => ?_
    have J3 : Inv X pins σ' H' { s' with heap := h3 } := J.landed nb fl3.1 (up.trans up3) os ag
    obtain ⟨oe3, vs3, he3, hz3, hd3⟩ := fl3.there
    have notFr : ∀ {h : Heap} {o : Obj} {vs : Array Value}, h.FunFrames B (X.env :: X.outer) → h.get? a = some o → o.data = .fields vs → a ∉ frs (X.env :: X.outer) := fun {h o vs} ff e dd hm => by
      obtain ⟨_, o', e', hnf⟩ := ff.mem hm
      rw [e] at e'; cases e'
      exact hnf _ dd
    have nfr := notFr fl3.2.2.1 he3 hd3
    have nL : a ≠ X.env.locals := fun z => nfr (List.mem_filterMap.mpr ⟨X.env, List.mem_cons_self, by rw [hf, z]⟩)
    have nF : a ∉ X.fs := fun hm => by
      obtain ⟨e, he, q⟩ := List.mem_filterMap.mp hm
      exact nfr (List.mem_filterMap.mpr ⟨e, List.mem_cons_of_mem _ he, q⟩)
    have S3 := J3.suite he3 hd3 na nL nF
    refine wpAny_handleBy_cons (codeAny_handlers_test ?_) (by intro q; cases q)
    have LT : PySem.W.Looks (model X.prog X.w) h3 (typeOf (.ref a)) cls := fun A Q E s k q => wpAny_typeOf_ref (k _ _ he3) (by rw [hz3.1]; exact q)
    have LM := PySem.W.exm_one (M := model X.prog X.w) (J3.kIn) LT hb1
    have test : ∀ {Q : Value → Shared → Prop} {E : Value → Shared → Prop}, Q c { s' with heap := h3 } → wpAny (model X.prog X.w) (X.A.mark (some (.ref a))) (eval (.Name x np) X.env) Q E { s' with heap := h3 } := fun {Q E} q => by
      obtain ⟨hg, hdbg, hm | ⟨hm, hv, hnn⟩⟩ := hc
      · exact ld_glob (X := X.suite a ((a, oe3) :: (X.pn ++ pins))) S3 hg hm q hdbg
      · exact ld_blt (X := X.suite a ((a, oe3) :: (X.pn ++ pins))) S3 hg hm hv q hnn hdbg
    refine test (LM.here ?_)
    cases b with
    | true =>
      refine codeAny_handlers_suite_as ?_
      refine HandSPX.lands_againZ fl3 fun h4 fl4 up4 => ?_
      obtain ⟨oe4, vs4, he4, hz4, hd4⟩ := fl4.there
      have hsa : sI.heap.get? a = none := by
        cases e : sI.heap.get? a with
        | none => rfl
        | some o =>
          have z := nb a o e (by rw [hs]; exact nfr)
          rw [fl4.2.1] at z
          cases z
      have J4 : Inv X pins σ' (upd H' a (ExT cls d a)) { s' with heap := h4 } := J.landedT nb fl4.1 ((up.trans up3).trans up4) os ag na hsa (exT_ok he4 hz4 hd4)
      have S4 := J4.suiteT a
      refine store_ok (X := X.suite a (X.pn ++ pins)) (v := .ref a) S4 hN hi hloc rfl (fun s5 S5 => ?_) (.inr hln)
      refine wpAny_mono ((hsu a cls d (X.pn ++ pins)).run [] s5 _ _ _ S5 (hyes rfl a na)) (fun f s6 hsp => ?_) (fun _ _ z => False.elim z)
      have end_ : ∀ {σ6 : St} {H6 : Hp} {Q : Shared → Prop}, Inv (X.suite a (X.pn ++ pins)) [] σ6 H6 s6 → (∀ s7, Inv X pins (σ6.set i none) H6 s7 → Q s7) →
          wpAny (model X.prog X.w) X.A (do bindName X.env n .none; unbindBehindTheSuite X.env n pos') (fun _ s7 => Q s7) X.xe s6 := fun {σ6 H6 Q} S6 hq => gone_ok (S6.unsuiteT ok) hN hi hln hq
      cases f with
      | next =>
        obtain ⟨σ6, H6, S6, q6⟩ := hsp
        exact end_ S6 fun s7 J7 => ⟨_, _, J7, q6⟩
      | brk =>
        obtain ⟨σ6, H6, S6, q6⟩ := hsp
        exact end_ S6 fun s7 J7 => ⟨_, _, J7, q6⟩
      | cont =>
        obtain ⟨σ6, H6, S6, q6⟩ := hsp
        exact end_ S6 fun s7 J7 => ⟨_, _, J7, q6⟩
      | ret u =>
        obtain ⟨v6, σ6, H6, S6, r6, q6⟩ := hsp
        exact end_ S6 fun s7 J7 => ⟨_, _, _, J7, r6, q6⟩
    | false =>
      show wpAny _ X.A (handleBy (.ref a) X.env []) _ _ _
      refine wpAny_handleBy_nil ?_
      obtain ⟨k1, k2, k3, oe, vs, T, oT, ts', he, hz, hd, h1, hr⟩ := id fl3
      unfold PySem.passOn
      refine wpAny_bind (wpAny_field he hd h1 ?_)
      rw [if_neg (show ¬ ((Value.ref T == Value.none) = true) from by simp)]
      have fin : wpAny (model X.prog X.w) X.A (setFlight (.ref a) X.env.frame) (fun _ s4 => wpAny (model X.prog X.w) X.A (throw (.ref a) : Sem Flow) (SP X pins D) X.xe s4) X.xe { s' with heap := h3 } := by
        rw [hf]
        refine HandSPX.setFlight_upZ fl3 fun h4 hh4 up4 => wpAny_throw (tk _ _ ?_)
        exact ⟨a, B, sI, pins, σ', H', cls, d, rfl, J, nb, (up.trans up3).trans up4, .inr (.inr (by rw [hs]; exact hh4)), na, os, ag, hno rfl⟩
      first
        | exact wpAny_bind (wpAny_pure (wpAny_bind fin))
        | exact wpAny_bind fin
  · cases f with
    | next =>
      obtain ⟨σ', H', J', q⟩ := hsp
      exact wpAny_execs_nil ⟨σ', H', J'.ofTry ok, q⟩
    | brk =>
      obtain ⟨σ', H', J', q⟩ := hsp
      exact ⟨σ', H', J'.ofTry ok, q⟩
    | cont =>
      obtain ⟨σ', H', J', q⟩ := hsp
      exact ⟨σ', H', J'.ofTry ok, q⟩
    | ret u =>
      obtain ⟨v, σ', H', J', r, q⟩ := hsp
      exact ⟨v, σ', H', J'.ofTry ok, r, q⟩
end
end L2
end
section
set_option Elab.async false
set_option maxRecDepth 100000
set_option linter.all false
set_option maxHeartbeats 4000000
namespace PySem.W
open PySem PySem.Spec PySem.Calls PyProof.Rows
section
variable {prog : Program} {w : World} {A : Around} {E : Value → Shared → Prop} {s : Shared} {K : Frag} {x D : Addr} {ox : Obj}
theorem findObj_dataT {C : Addr} {name : Str} {a g : Value} {od : Option Obj} (hc : (clsIn K C).isSome = true) (ha : findIn K (.ref C) name = some (some a)) (hg : specialIn K a "__get__" = some (some g)) (ht : takesIn K a = some true) : findObj K C od name = some (.bind g a) := by
  obtain ⟨cd, hc⟩ := Option.isSome_iff_exists.mp hc
  unfold findObj
  rw [hc, Option.bind_some, ha, Option.bind_some]
  simp [hg, ht]
theorem kin_classT {Q : Option Value → Shared → Prop} (hga : findIn K (.ref D) "__getattribute__" = some (some (.builtin "BaseException.__getattribute__"))) (hgt : findIn K (.ref D) "__getattr__" = some none) (hsub : subIn K (.ref D) (.type "BaseException") = some true)
    (hdct : hasDictIn K D = true) (ha : findIn K (.ref D) "__class__" = some (some (.builtin "object.__class__")))
    (hn : specialIn K (.builtin "object.__class__") "__get__" = some (some (.builtin "getset_descriptor.__get__"))) (htk : takesIn K (.builtin "object.__class__") = some true) (hm : mroIn K D (.type "object") = some true)
    {od : Option Obj} (X : K.In s.heap) (I : InstAt s.heap x ox D od) (h : Q (some (.ref D)) { s with toks := s.toks + 1 }) : wpAny (model prog w) A (getAttr? (.ref x) "__class__") Q E s := by
  have hf : findObj K D od "__class__" = some (.bind (.builtin "getset_descriptor.__get__") (.builtin "object.__class__")) := findObj_dataT (by obtain ⟨cd, hc, _⟩ := any_some hdct; rw [hc]; rfl) ha hn htk
  obtain ⟨hp, g, d, t, os⟩ := s
  have L0 := I.type (M := model prog w)
  have L1 := looks_findIn (M := model prog w) X hga
  have L2 := looks_findIn (M := model prog w) X hgt
  have L3 := looks_find (M := model prog w) X I hf
  have sub : Looks (model prog w) hp (isInstance (.ref x) (.type "BaseException")) true := L0.andThen (looks_subIn X hsub)
  have hx0 : (false && onTheHeap (Value.builtin "BaseException.__getattribute__")) = false := rfl
  have hx2 : (Value.builtin "BaseException.__getattribute__" == Value.builtin "object.__getattribute__") = false := by decide +kernel
  have hx1 : (onTheHeap (Value.ref D) && Value.builtin "BaseException.__getattribute__" == Value.builtin "object.__getattribute__") = false := by rw [hx2]; rfl
  unfold getAttr? getAttrBy? getAttrBy
  refine wpAny_bind (wpAny_mkText (wpAny_bind (wpAny_attempt (wpAny_holding (wpAny_bind (L0.at (wpAny_bind (L1.at ?_))))))))
  show wpAny _ _ (if (onTheHeap (Value.ref D) && Value.builtin "BaseException.__getattribute__" == Value.builtin "object.__getattribute__") = true then _ else _) _ _ _
  rw [hx1, if_neg Bool.false_ne_true]
  unfold getAttrByItsOwn hookBefore
  refine wpAny_bind ?_
  rw [if_pos (show onTheHeap (Value.ref D) = true from rfl)]
  refine L2.at ?_
  refine wpAny_bind (wpAny_attempt (wpAny_holding ?_))
  unfold callGetattribute
  rw [hx0, if_neg Bool.false_ne_true]
  unfold boundAndCalled
  rw [PySem.F.excAttr_ValueError.ga.bind (.ref x)]
  refine wpAny_bind (wpAny_pure ?_)
  show wpAny _ _ (call (.builtin "BaseException.__getattribute__") [.ref x, .str "__class__" t]) _ _ _
  refine wpAny_call (codeAny_call_builtin PySem.F.excAttr_ValueError.ga.plain PySem.F.entry_bexc_ga ?_)
  refine @check_slot (model prog w) _ _ ⟨hp, g, d, t + 1, os⟩ "BaseException.__getattribute__" "BaseException" "__getattribute__" (.ref x) [.str "__class__" t] [] _ (by decide +kernel) (by decide +kernel) sub (PySem.F.args_bexc_ga (.ref x) (.str "__class__" t)) ?_
  unfold Builtin.«object.__getattribute__»
  refine wpAny_bind (wpAny_of_eq (a := ((Value.ref x : Value), [Value.str "__class__" t])) (by first | rfl | (simp only [slotArgs]; rfl)) ?_)
  refine wpAny_bind (wpAny_pure (wpAny_bind (L0.at (wpAny_bind (L3.at ?_)))))
  show wpAny _ _ (holding [Value.builtin "object.__class__"] (call (.builtin "getset_descriptor.__get__") [.builtin "object.__class__", .ref x, .ref D]) >>= ret) _ _ _
  refine wpAny_bind (wpAny_holding (wpAny_call (class_get (s := ⟨hp, g, d, t + 1, os⟩) (ox := ox) (od := od) X I hm ?_)))
  refine wpAny_pure ?_
  show wpAny _ _ (handedOut (.ref D)) _ _ _
  rw [handedOut_of (v := .ref D) rfl]
  first
    | exact wpAny_pure (wpAny_pure h)
    | exact wpAny_pure h
    | exact wpAny_pure (wpAny_bind (wpAny_pure (wpAny_pure h)))
theorem kitx_excT (hga : findIn K (.ref D) "__getattribute__" = some (some (.builtin "BaseException.__getattribute__"))) (hgt : findIn K (.ref D) "__getattr__" = some none) (hsub : subIn K (.ref D) (.type "BaseException") = some true) (hdct : hasDictIn K D = true) (ha : findIn K (.ref D) "__class__" = some (some (.builtin "object.__class__")))
    (hn : specialIn K (.builtin "object.__class__") "__get__" = some (some (.builtin "getset_descriptor.__get__"))) (htk : takesIn K (.builtin "object.__class__") = some true) (hm : mroIn K D (.type "object") = some true) :
    KitX K (.ref x) (.ref D) (fun h => ∃ (ox : Obj) (od : Option Obj), InstAt h x ox D od) where
  ty := fun _ _ _ I => by
    obtain ⟨ox, od, I⟩ := I
    exact I.type
  it := fun _ _ X _ => by
    obtain ⟨cdD, hcD, _⟩ := any_some hdct
    unfold clsIn at hcD
    split at hcD
    · rename_i c' d' cd' sl' ho
      intro A' Q' E' s' k q
      unfold isType loadHead
      exact wpAny_bind (wpAny_loadPart (k _ _ (X _ _ ho)) (wpAny_pure q))
    · cases hcD
  ne := fun h tp dd its n sl X htp => by
    obtain ⟨cdD, hcD, _⟩ := any_some hdct
    refine Bool.eq_false_iff.mpr fun q => ?_
    have e : D = tp := Value.ref.inj (beq_iff_eq.mp q)
    subst e
    unfold clsIn at hcD
    split at hcD
    · rename_i c' d' cd' sl' ho
      have z := (X _ _ ho).symm.trans htp
      cases z
    · cases hcD
  ca := fun X I k => by
    obtain ⟨ox, od, I⟩ := I
    exact kin_classT hga hgt hsub hdct ha hn htk hm X I k
end
end PySem.W
namespace L2
open PySem PySem.Spec PyProof.Rows
section
variable {X : Cx} {pins : List (Addr × Obj)} {σ : St} {H : Hp} {s : Shared}
theorem exT_inst (I : Inv X pins σ H s) {a D : Addr} {d : Option Addr} {fs : List (Str × V)} (e : H a = some (ExT (.ref D) d a)) (hd : ∀ dd, d = some dd → H dd = some (.xd fs)) : ∃ (ox : Obj) (od : Option Obj), PySem.W.InstAt s.heap a ox D od := by
  obtain ⟨oe, vs, he, hz, hv⟩ := exT_at I.hok e
  cases d with
  | none => exact ⟨oe, none, he, hz.1, by unfold PySem.W.notCls; rw [hv] <;> rfl, by rw [hz.2]; trivial⟩
  | some dd =>
    have hx : ObjOk X.prog X.w H s.heap dd (.xd fs) := I.hok dd _ (hd dd rfl)
    obtain ⟨mA, hns, hr⟩ := hx
    obtain ⟨od, ho, hl⟩ := lookIn_ns hns
    exact ⟨oe, some od, he, hz.1, by unfold PySem.W.notCls; rw [hv] <;> rfl, by rw [hz.2]; exact ho⟩
/-- isinstance(e, c), e a kept error -/
def rIsT (K : PySem.W.Frag) : List V → Hp → VK → Prop := fun xs H Q => ∃ (a D dd : Addr) (fs : List (Str × V)) (c : V) (cv : Value) (b : Bool), xs = [.ref a, c] ∧ H a = some (ExT (.ref D) (some dd) a) ∧ H dd = some (.xd fs) ∧ ExcC K D ∧ (∀ u, RelV c u → u = cv) ∧ PySem.W.kitOne K (.ref D) cv = some b ∧ Q (.bl b) H
theorem call_isT {X : Cx} : CallR X (.builtin "isinstance") (rIsT X.K) := by
  intro pins s σ H xs us Q I r h
  obtain ⟨a, D, dd, fs, c, cv, b, rfl, e, ed, C, hcv, hb, q⟩ := h
  cases r with
  | cons rx rr =>
    cases rr with
    | cons rt rr =>
      cases rr
      cases rx
      have ec := hcv _ rt
      subst ec
      exact PySem.W.kia_one (PySem.W.kitx_excT C.hg C.hk C.hs C.hd C.ha C.hn C.ht C.hm) I.kIn (exT_inst I e (fun d' z => by cases z; exact ed)) hb (fun z => nomatch z) fun tk => ⟨.bl b, H, I.kept (t' := tk) fun _ _ z => z, rfl, q⟩
/-- isinstance(e, (c, ..)), e a kept error -/
def rIsTT (K : PySem.W.Frag) : List V → Hp → VK → Prop := fun xs H Q => ∃ (a D dd t : Addr) (fs : List (Str × V)) (cs : List Addr) (b : Bool), xs = [.ref a, .ref t] ∧ H a = some (ExT (.ref D) (some dd) a) ∧ H dd = some (.xd fs) ∧ ExcC K D ∧ H t = some (.tup (cs.map V.ref)) ∧ PySem.W.kitAny K (.ref D) (cs.map Value.ref) = some b ∧ Q (.bl b) H
theorem call_isTT {X : Cx} : CallR X (.builtin "isinstance") (rIsTT X.K) := by
  intro pins s σ H xs us Q I r h
  obtain ⟨a, D, dd, t, fs, cs, b, rfl, e, ed, C, ht, hb, q⟩ := h
  cases r with
  | cons rx rr =>
    cases rr with
    | cons rt rr =>
      cases rr
      cases rx
      cases rt
      obtain ⟨its, rv, ⟨ot, ho, hc, n, hd⟩, _⟩ := I.tuple (SqT.of (K := X.K) ht)
      have ei := K2.vals_refs rv
      subst ei
      obtain ⟨c0, d0, dt0, sl0⟩ := ot
      dsimp only at hc hd
      subst hc
      subst hd
      exact PySem.W.kia_tup (PySem.W.kitx_excT C.hg C.hk C.hs C.hd C.ha C.hn C.ht C.hm) I.kIn (exT_inst I e (fun d' z => by cases z; exact ed)) ho hb (fun z => nomatch z) fun tk => ⟨.bl b, H, I.kept (t' := tk) fun _ _ z => z, rfl, q⟩
/-- e.f, e a kept error -/
def tXt (K : PySem.W.Frag) (f : Str) (te : TE) : TE := fun σ H Q => te σ H fun x H1 => ∃ (a C dd : Addr) (fs : List (Str × V)) (v : V), x = .ref a ∧ H1 a = some (ExT (.ref C) (some dd) a) ∧ H1 dd = some (.xd fs) ∧ XfC K C ∧ PySem.W.findIn K (.ref C) f = some none ∧ fs.lookup f = some v ∧ Q v H1
theorem pe_xt {X : Cx} {e : Expr} {te : TE} {pos : Pos} {n : Str} (he : PE X e te) (hb : attributeBase e n X.env (eval e X.env) = eval e X.env := by rfl) :
    PE X (.Attribute e n pos) (tXt X.K n te) := by
  refine ⟨fun pins s σ H Q I h => ?_⟩
  refine attr_of hb (thn (he.run pins s σ H _ I h) fun u s1 hh => ?_)
  obtain ⟨x, H1, I1, rx, a, C, dd, fs, v, ex, e, ea, T, hno, l, q⟩ := hh
  subst ex
  obtain rfl : u = Value.ref a := rx
  obtain ⟨oe, vs, ha, hz, hd⟩ := exT_at I1.hok e
  have hx : ObjOk X.prog X.w H1 s1.heap dd (.xd fs) := I1.hok dd _ ea
  obtain ⟨mA, hns, hr⟩ := hx
  obtain ⟨od, ho, hl⟩ := lookIn_ns hns
  obtain ⟨u, hu, ru⟩ := RelO.some_of (v := v) (o := mA n) (by rw [← l]; exact hr n)
  have J : PySem.W.InstAt s1.heap a oe C (some od) := ⟨ha, hz.1, by unfold PySem.W.notCls; rw [hd] <;> rfl, by rw [hz.2]; exact ho⟩
  exact HandSPX.exc_get I1.kIn J T.ga T.gg T.exC (PySem.W.findObj_own T.hdC hno rfl (by rw [hl, hu])) (handed_of ru) ⟨v, H1, I1.tok _, ru, q⟩
end
end L2
end
section
set_option Elab.async false
set_option maxRecDepth 100000
set_option linter.all false
namespace K2
open PySem L2 LamX
abbrev sHeard : Stmt := top 37
abbrev nHeard : List Str := ["_law_ask", "_law_caught", "error", "_law_marks"]
theorem ps_dead {X : Cx} {st : Stmt} : PS X st (fun _ _ _ => False) := ⟨fun _ _ _ _ _ _ h => h.elim⟩
theorem pe_dead {X : Cx} {e : Expr} : PE X e (fun _ _ _ => False) := ⟨fun _ _ _ _ _ _ h => h.elim⟩
section
variable {X : Cx}
def rCntB (K : PySem.W.Frag) : V → List V → Hp → VK → Prop := fun x xs H Q => ∃ (p : Addr) (ys : List V) (y : V), x = .ref p ∧ xs = [y] ∧ SqL K H p ys ∧ flatV y = true ∧ ys.all flatV = true ∧ Q (.int (ys.countP fun z => eqV z y : Nat)) H
theorem countP_U {x : V} : ∀ {ys : List V} {us : List Value}, Vals ys us → ys.all flatV = true → us.countP (eqU x) = ys.countP fun z => eqV z x
  | _, _, .nil, _ => rfl
  | y :: ys, u :: us, .cons r t, f => by
    rw [List.all_cons, Bool.and_eq_true] at f
    rw [List.countP_cons, List.countP_cons, countP_U t f.2, eqU_of r f.1]
theorem mt_lcountB : MtR X "list.count" (rCntB X.K) := by
  intro pins s σ H x xs v us Q I rx rxs h
  obtain ⟨p, ys, y, rfl, rfl, hs, fy, fys, q⟩ := h
  cases rx
  obtain ⟨u, rfl, ry⟩ := rxs.one
  obtain ⟨its, rv, ⟨⟨cls, dd, data, sl⟩, n, ho, hc, hdn, hd⟩, hlen⟩ := I.list hs
  simp only at hc hd
  subst hc hd
  refine call_meets PySem.F.slot_list_count ⟨_, ho, rfl⟩ PySem.F.entry_list_count (PySem.F.args_list_count_2 _ _)
    (SeqAt.list_countAt p its.toArray n dd sl u (eqU y)) ⟨ho, fun u' hu' => mem_eqAt ry fy rv fys u' (by simpa using hu'), ?_⟩
  have ec : its.toArray.toList.countP (eqU y) = ys.countP fun z => eqV z y := countP_U rv fys
  refine ⟨.int (ys.countP fun z => eqV z y : Nat), H, I.tok _, ⟨s.toks, ?_⟩, q⟩
  show Value.int ((its.toArray.toList.countP (eqU y) : Nat) : Int) s.toks = _
  rw [ec]
end
abbrev errs : List Str := ["LeaveError", "NoClass", "NoFunction", "NoProgram", "NoName", "NoCase", "TooMany", "NoText", "NoAct", "NoRecord", "Barred", "Unlike", "NoRow"]
/-- D is the class TooMany -/
structure Many (K : PySem.W.Frag) (cl : Str → Addr) (D : Addr) : Prop where
  ex : PySem.W.exmOne K (.ref D) (.ref (cl "LeaveError")) = some true
  isC : ExcC K D
  xf : XfC K D
  fw : PySem.W.findIn K (.ref D) "what" = some none
  fm : PySem.W.findIn K (.ref D) "most" = some none
  k1 : PySem.W.kitOne K (.ref D) (.ref (cl "NoClass")) = some false
  k2 : PySem.W.kitOne K (.ref D) (.ref (cl "NoFunction")) = some false
  k3 : PySem.W.kitOne K (.ref D) (.ref (cl "NoProgram")) = some false
  k4 : PySem.W.kitOne K (.ref D) (.ref (cl "NoName")) = some false
  k5 : PySem.W.kitOne K (.ref D) (.ref (cl "NoCase")) = some false
  k6 : PySem.W.kitOne K (.ref D) (.ref (cl "TooMany")) = some true
  kt : PySem.W.kitAny K (.ref D) ([cl "NoText", cl "NoAct", cl "NoRecord", cl "Barred", cl "Unlike", cl "NoRow"].map Value.ref) = some false
  kv : PySem.W.kitOne K (.ref D) (.type "ValueError") = some true
def HM (K : PySem.W.Frag) (cl : Str → Addr) (Q : VK) : XK := fun cls d H' => ∃ (D dd : Addr) (fs : List (Str × V)) (v1 v2 : V), cls = .ref D ∧ d = some dd ∧ H' dd = some (.xd fs) ∧ Many K cl D ∧ fs.lookup ("what" : Str) = some v1 ∧ fs.lookup ("most" : Str) = some v2 ∧
  ∀ (t : Addr) (H'' : Hp), Same H' H'' → H'' t = some (.tup [.str "MANY", v1, v2]) → Q (.ref t) H''
def TTh (K : PySem.W.Frag) (cl : Str → Addr) : (XK → Hp → VK → Prop) → Hp → VK → Prop := fun tl H Q => tl (HM K cl Q) H fun v H' => [v].length ≤ sizeLine ∧ ∀ p, H' p = none → Q (.ref p) (upd H' p (.lst [v]))
theorem scHeard : FnScope nHeard ["_law_ask"] (defScope sHeard) := ⟨rfl, rfl, rfl, by decide +kernel, rfl, by decide +kernel, by decide +kernel⟩
theorem heard_gives {X : Cx} {g : Addr} {cdg : Value} {q : Str} {cl : Str → Addr} (T : Bi X.mg) (tVE : X.mg "ValueError" = none) (hcl : ∀ x ∈ errs, X.mg x = some (.ref (cl x))) :
    GivesTo X nHeard "_law_heard" (defScope sHeard) g cdg (defBody sHeard) "_law_ask" q (TTh X.K cl) := by
  intro f c' s H Q tl act hc h
  have hge : Gl (cxOf C8.CX0 X.prog X.w X.K X.mg X.base nHeard "_law_heard" (defScope sHeard) g cdg X.A X.stack s H C8.E0).nox "LeaveError" := by rfl
  refine ⟨_, (pss_cons (ps_set (i := 1) scHeard.nd rfl (Or.inl rfl) pe_non)
    (pss_cons (ps_try_asT (X := (cxOf C8.CX0 X.prog X.w X.K X.mg X.base nHeard "_law_heard" (defScope sHeard) g cdg X.A X.stack s H C8.E0).nox) (i := 2) (c := .ref (cl "LeaveError"))
      (tb := fun W D σ H => ∃ Ech : XK, (∀ cls d σ' H', Ech cls d H' → W cls d σ' H') ∧ σ[0]? = some (some (.ref f)) ∧ H c' = some (CodeO c' q) ∧ tl Ech H fun v H1 => [v].length ≤ sizeLine ∧ ∀ p, H1 p = none → D.rt (.ref p) (upd H1 p (.lst [v])))
      rfl rfl scHeard.nd rfl (by rfl) ⟨hge, by decide +kernel, .inl (hcl "LeaveError" (by decide +kernel))⟩ LamX.takes0 (fun W pn xe tk _ => ?_) (fun a cls d pn => pss_one (ps_set (i := 1) scHeard.nd rfl (Or.inl rfl) (pv 2))))
    (pss_cons (ps_set (i := 3) scHeard.nd rfl (Or.inl rfl) (pe_lst (pa_cons (pe_callB call_isT (by rfl) T.isinstance (by decide +kernel) (pa_cons (pv 1) (pa_cons (pe_glob (v := .ref (cl "NoClass")) (by rfl) (hcl "NoClass" (by decide +kernel)) rfl) pa_nil))) (pa_cons (pe_callB call_isT (by rfl) T.isinstance (by decide +kernel) (pa_cons (pv 1) (pa_cons (pe_glob (v := .ref (cl "NoFunction")) (by rfl) (hcl "NoFunction" (by decide +kernel)) rfl) pa_nil))) (pa_cons (pe_callB call_isT (by rfl) T.isinstance (by decide +kernel) (pa_cons (pv 1) (pa_cons (pe_glob (v := .ref (cl "NoProgram")) (by rfl) (hcl "NoProgram" (by decide +kernel)) rfl) pa_nil))) pa_nil)))))
    (pss_cons (ps_set (i := 3) scHeard.nd rfl (Or.inl rfl) (pe_op op_cat (pv 3) (pe_lst (pa_cons (pe_callB call_isT (by rfl) T.isinstance (by decide +kernel) (pa_cons (pv 1) (pa_cons (pe_glob (v := .ref (cl "NoName")) (by rfl) (hcl "NoName" (by decide +kernel)) rfl) pa_nil))) (pa_cons (pe_callB call_isT (by rfl) T.isinstance (by decide +kernel) (pa_cons (pv 1) (pa_cons (pe_glob (v := .ref (cl "NoCase")) (by rfl) (hcl "NoCase" (by decide +kernel)) rfl) pa_nil))) (pa_cons (pe_callB call_isT (by rfl) T.isinstance (by decide +kernel) (pa_cons (pv 1) (pa_cons (pe_glob (v := .ref (cl "TooMany")) (by rfl) (hcl "TooMany" (by decide +kernel)) rfl) pa_nil))) pa_nil))))))
    (pss_cons (ps_expr (pe_bm PySem.F.plainAttrs_list PySem.F.slot_list_append PySem.F.type_list_append mt_append (pv 3) (pa_cons (pe_callB call_isTT (by rfl) T.isinstance (by decide +kernel) (pa_cons (pv 1) (pa_cons (pe_tup (pa_cons (pe_glob (v := .ref (cl "NoText")) (by rfl) (hcl "NoText" (by decide +kernel)) rfl) (pa_cons (pe_glob (v := .ref (cl "NoAct")) (by rfl) (hcl "NoAct" (by decide +kernel)) rfl) (pa_cons (pe_glob (v := .ref (cl "NoRecord")) (by rfl) (hcl "NoRecord" (by decide +kernel)) rfl) (pa_cons (pe_glob (v := .ref (cl "Barred")) (by rfl) (hcl "Barred" (by decide +kernel)) rfl) (pa_cons (pe_glob (v := .ref (cl "Unlike")) (by rfl) (hcl "Unlike" (by decide +kernel)) rfl) (pa_cons (pe_glob (v := .ref (cl "NoRow")) (by rfl) (hcl "NoRow" (by decide +kernel)) rfl) pa_nil))))))) pa_nil))) pa_nil)))
    (pss_cons (ps_if (PW.pt (pw_or (pt_cmpR op_ne (pe_bm PySem.F.plainAttrs_list PySem.F.slot_list_count PySem.F.type_list_count mt_lcountB (pv 3) (pa_cons pe_bl pa_nil)) pe_int (nomark _))
        (pw_or (pt_val (pe_ix ix_list (pv 3) pe_int (fun _ _ => rfl))) (pw_or1 (pt_not (pt_val (pe_callB call_isT (by rfl) T.isinstance (by decide +kernel) (pa_cons (pv 1) (pa_cons (pe_bltn (v := .ty "ValueError") (by rfl) tVE (by decide +kernel) rfl) pa_nil))))))))) (pss_one ps_dead) pss_nil)
    (pss_cons (ps_if (pt_cmpR op_in_seq pe_bl (pe_slice sl_list (pv 3) po_none (po_some pe_int)) rfl) (pss_one ps_dead) pss_nil)
    (pss_cons (ps_if (pt_val (pe_ix ix_list (pv 3) pe_int (fun _ _ => rfl))) (pss_one ps_dead) pss_nil)
    (pss_one (ps_ret (pe_ifExp (pt_val (pe_ix ix_list (pv 3) pe_int (fun _ _ => rfl))) pe_dead (pe_tup (pa_cons pe_str (pa_cons (pe_xt (pv 1)) (pa_cons (pe_xt (pv 1)) pa_nil))))))))))))))), ?_⟩
  · refine ⟨fun pins s' σ H' D I h' => ?_⟩
    obtain ⟨Ech, hW, h1, h2, h3⟩ := h'
    refine (pss_one (ps_ret (pe_lst (pa_cons (act W pn xe Ech _ _ tk hW) pa_nil)))).run pins s' σ H' D I ?_
    exact ⟨h1, h2, h3⟩
  · refine ⟨HM X.K cl Q, fun cls d σ' H' hm hlen => ?_, rfl, hc, h⟩
    obtain ⟨D, dd, fs, v1, v2, rfl, rfl, hx, M, l1, l2, k⟩ := hm
    refine ⟨true, M.ex, fun _ a na => ?_, fun z => nomatch z⟩
    obtain ⟨s0, s1, s2, s3, rfl⟩ : ∃ s0 s1 s2 s3, σ' = [s0, s1, s2, s3] := by
      match σ', hlen with
      | [s0, s1, s2, s3], _ => exact ⟨s0, s1, s2, s3, rfl⟩
    have sE : Same H' (upd H' a (ExT (.ref D) (some dd) a)) := (Same.refl H').put na
    have ha : ∀ {H1 : Hp}, Same (upd H' a (ExT (.ref D) (some dd) a)) H1 → H1 a = some (ExT (.ref D) (some dd) a) := fun s => s _ _ upd_same
    have hd : ∀ {H1 : Hp}, Same (upd H' a (ExT (.ref D) (some dd) a)) H1 → H1 dd = some (.xd fs) := fun s => s _ _ (sE _ _ hx)
    generalize hHe : upd H' a (ExT (.ref D) (some dd) a) = He at *
    have r0 : Same He He := Same.refl He
    refine ⟨_, rfl, _, rfl, a, D, dd, fs, _, _, _, rfl, ha r0, hd r0, M.isC, fun _ r => r, M.k1, _, rfl, a, D, dd, fs, _, _, _, rfl, ha r0, hd r0, M.isC, fun _ r => r, M.k2, _, rfl, a, D, dd, fs, _, _, _, rfl, ha r0, hd r0, M.isC, fun _ r => r, M.k3, (by show 3 ≤ sizeLine; decide), fun p1 hp1 => ?_⟩
    have r1 := r0.put (o := .lst [.bl false, .bl false, .bl false]) hp1
    refine ⟨_, rfl, _, rfl, a, D, dd, fs, _, _, _, rfl, ha r1, hd r1, M.isC, fun _ r => r, M.k4, _, rfl, a, D, dd, fs, _, _, _, rfl, ha r1, hd r1, M.isC, fun _ r => r, M.k5, _, rfl, a, D, dd, fs, _, _, _, rfl, ha r1, hd r1, M.isC, fun _ r => r, M.k6, (by show 3 ≤ sizeLine; decide), fun p2 hp2 => ?_⟩
    have r2 := r1.put (o := .lst [.bl false, .bl false, .bl true]) (r1.free hp2)
    refine ⟨p1, p2, _, _, rfl, rfl, by rw [upd_ne (ne_of_none upd_same hp2), upd_same], upd_same, (by show 6 ≤ sizeLine; decide), fun p3 hp3 => ?_⟩
    have r3 := r2.put (o := .lst ([.bl false, .bl false, .bl false] ++ [.bl false, .bl false, .bl true])) (r2.free hp3)
    refine ⟨_, rfl, .inl ⟨rfl, _, SqL.of upd_same⟩, ?_⟩
    generalize hH3 : upd (upd (upd He p1 (.lst [.bl false, .bl false, .bl false])) p2 (.lst [.bl false, .bl false, .bl true])) p3 (.lst ([.bl false, .bl false, .bl false] ++ [.bl false, .bl false, .bl true])) = H3 at *
    have e3 : H3 p3 = some (.lst [.bl false, .bl false, .bl false, .bl false, .bl false, .bl true]) := by rw [← hH3, upd_same]; rfl
    refine ⟨_, rfl, (by show 6 ≤ sizeLine; decide), fun t ht => ?_⟩
    have r4 := r3.put (o := .tup [.ref (cl "NoText"), .ref (cl "NoAct"), .ref (cl "NoRecord"), .ref (cl "Barred"), .ref (cl "Unlike"), .ref (cl "NoRow")]) (r3.free ht)
    refine ⟨a, D, dd, t, fs, _, _, rfl, ha r4, hd r4, M.isC, upd_same, M.kt, p3, _, _, rfl, rfl, by rw [upd_ne (ne_of_none e3 ht)]; exact e3, (by show 6 < sizeLine; decide), ?_⟩
    have r5 : Same He (upd (upd H3 t (.tup [.ref (cl "NoText"), .ref (cl "NoAct"), .ref (cl "NoRecord"), .ref (cl "Barred"), .ref (cl "Unlike"), .ref (cl "NoRow")])) p3 (.lst ([.bl false, .bl false, .bl false, .bl false, .bl false, .bl true] ++ [.bl false]))) := fun b o e => by
      have n3 : b ≠ p3 := ne_of_none e (r2.free hp3)
      rw [upd_ne n3]
      exact r4 b o e
    generalize hH5 : upd (upd H3 t (.tup [.ref (cl "NoText"), .ref (cl "NoAct"), .ref (cl "NoRecord"), .ref (cl "Barred"), .ref (cl "Unlike"), .ref (cl "NoRow")])) p3 (.lst ([.bl false, .bl false, .bl false, .bl false, .bl false, .bl true] ++ [.bl false])) = H5 at *
    have e5 : H5 p3 = some (.lst [.bl false, .bl false, .bl false, .bl false, .bl false, .bl true, .bl false]) := by rw [← hH5, upd_same]; rfl
    refine ⟨_, rfl, .inl ⟨rfl, _, SqL.of e5⟩, p3, _, _, rfl, rfl, SqL.of e5, rfl, rfl, rfl, _, rfl, ite2 (fun z => absurd z (by decide)) fun _ => ?_⟩
    refine ⟨_, rfl, p3, _, 6, _, rfl, rfl, SqL.of e5, rfl, _, rfl, ite2 (fun z => absurd z (by decide)) fun _ => ?_⟩
    refine ⟨_, rfl, a, D, dd, fs, _, _, _, rfl, ha r5, hd r5, M.isC, fun _ r => r, M.kv, _, rfl, ite2 (fun z => absurd z (by decide)) fun _ => ?_⟩
    have ec : cutV [.bl false, .bl false, .bl false, .bl false, .bl false, .bl true, .bl false] none (some 3) = [.bl false, .bl false, .bl false] := by rfl
    refine ⟨_, rfl, ?_⟩
    refine ⟨3, rfl, p3, _, rfl, SqL.of e5, fun p4 hp4 => ?_⟩
    rw [ec]
    have r6 := r5.put (o := .lst [.bl false, .bl false, .bl false]) (r5.free hp4)
    have e6 : (upd H5 p4 (.lst [.bl false, .bl false, .bl false])) p3 = some (.lst [.bl false, .bl false, .bl false, .bl false, .bl false, .bl true, .bl false]) := by rw [upd_ne (ne_of_none e5 hp4)]; exact e5
    refine ⟨p4, _, rfl, .inl (SqL.of upd_same), rfl, rfl, _, rfl, ite2 (fun z => absurd z (by decide)) fun _ => ?_⟩
    refine ⟨_, rfl, p3, _, 3, _, rfl, rfl, SqL.of e6, rfl, _, rfl, ite2 (fun z => absurd z (by decide)) fun _ => ?_⟩
    refine ⟨_, rfl, p3, _, 4, _, rfl, rfl, SqL.of e6, rfl, _, rfl, ite2 (fun z => absurd z (by decide)) fun _ => ?_⟩
    refine ⟨_, rfl, a, D, dd, fs, v1, rfl, ha r6, hd r6, M.xf, M.fw, l1, _, rfl, a, D, dd, fs, v2, rfl, ha r6, hd r6, M.xf, M.fm, l2, (by show 3 ≤ sizeLine; decide), fun t2 ht2 => ?_⟩
    exact k t2 _ (sE.trans (r6.put (r6.free ht2))) upd_same
end K2
end
section
set_option Elab.async false
set_option maxRecDepth 100000
set_option linter.all false
/-! _law_heard for an error of NoClass: ('CLASS', reason, place) -/
namespace K2
open PySem L2 LamX
/-- D is the class NoClass -/
structure OfClass (K : PySem.W.Frag) (cl : Str → Addr) (D : Addr) : Prop where
  ex : PySem.W.exmOne K (.ref D) (.ref (cl "LeaveError")) = some true
  isC : ExcC K D
  xf : XfC K D
  fw : PySem.W.findIn K (.ref D) "reason" = some none
  fm : PySem.W.findIn K (.ref D) "place" = some none
  k1 : PySem.W.kitOne K (.ref D) (.ref (cl "NoClass")) = some true
  k2 : PySem.W.kitOne K (.ref D) (.ref (cl "NoFunction")) = some false
  k3 : PySem.W.kitOne K (.ref D) (.ref (cl "NoProgram")) = some false
  k4 : PySem.W.kitOne K (.ref D) (.ref (cl "NoName")) = some false
  k5 : PySem.W.kitOne K (.ref D) (.ref (cl "NoCase")) = some false
  k6 : PySem.W.kitOne K (.ref D) (.ref (cl "TooMany")) = some false
  kt : PySem.W.kitAny K (.ref D) ([cl "NoText", cl "NoAct", cl "NoRecord", cl "Barred", cl "Unlike", cl "NoRow"].map Value.ref) = some false
  kv : PySem.W.kitOne K (.ref D) (.type "ValueError") = some true
def HMC (K : PySem.W.Frag) (cl : Str → Addr) (Q : VK) : XK := fun cls d H' => ∃ (D dd : Addr) (fs : List (Str × V)) (v1 v2 : V), cls = .ref D ∧ d = some dd ∧ H' dd = some (.xd fs) ∧ OfClass K cl D ∧ fs.lookup ("reason" : Str) = some v1 ∧ fs.lookup ("place" : Str) = some v2 ∧
  ∀ (t : Addr) (H'' : Hp), Same H' H'' → H'' t = some (.tup [.str "CLASS", v1, v2]) → Q (.ref t) H''
def TThC (K : PySem.W.Frag) (cl : Str → Addr) : (XK → Hp → VK → Prop) → Hp → VK → Prop := fun tl H Q => tl (HMC K cl Q) H fun v H' => [v].length ≤ sizeLine ∧ ∀ p, H' p = none → Q (.ref p) (upd H' p (.lst [v]))
theorem heard_givesC {X : Cx} {g : Addr} {cdg : Value} {q : Str} {cl : Str → Addr} (T : Bi X.mg) (tVE : X.mg "ValueError" = none) (hcl : ∀ x ∈ errs, X.mg x = some (.ref (cl x))) :
    GivesTo X nHeard "_law_heard" (defScope sHeard) g cdg (defBody sHeard) "_law_ask" q (TThC X.K cl) := by
  intro f c' s H Q tl act hc h
  have hge : Gl (cxOf C8.CX0 X.prog X.w X.K X.mg X.base nHeard "_law_heard" (defScope sHeard) g cdg X.A X.stack s H C8.E0).nox "LeaveError" := by rfl
  refine ⟨_, (pss_cons (ps_set (i := 1) scHeard.nd rfl (Or.inl rfl) pe_non)
    (pss_cons (ps_try_asT (X := (cxOf C8.CX0 X.prog X.w X.K X.mg X.base nHeard "_law_heard" (defScope sHeard) g cdg X.A X.stack s H C8.E0).nox) (i := 2) (c := .ref (cl "LeaveError"))
      (tb := fun W D σ H => ∃ Ech : XK, (∀ cls d σ' H', Ech cls d H' → W cls d σ' H') ∧ σ[0]? = some (some (.ref f)) ∧ H c' = some (CodeO c' q) ∧ tl Ech H fun v H1 => [v].length ≤ sizeLine ∧ ∀ p, H1 p = none → D.rt (.ref p) (upd H1 p (.lst [v])))
      rfl rfl scHeard.nd rfl (by rfl) ⟨hge, by decide +kernel, .inl (hcl "LeaveError" (by decide +kernel))⟩ LamX.takes0 (fun W pn xe tk _ => ?_) (fun a cls d pn => pss_one (ps_set (i := 1) scHeard.nd rfl (Or.inl rfl) (pv 2))))
    (pss_cons (ps_set (i := 3) scHeard.nd rfl (Or.inl rfl) (pe_lst (pa_cons (pe_callB call_isT (by rfl) T.isinstance (by decide +kernel) (pa_cons (pv 1) (pa_cons (pe_glob (v := .ref (cl "NoClass")) (by rfl) (hcl "NoClass" (by decide +kernel)) rfl) pa_nil))) (pa_cons (pe_callB call_isT (by rfl) T.isinstance (by decide +kernel) (pa_cons (pv 1) (pa_cons (pe_glob (v := .ref (cl "NoFunction")) (by rfl) (hcl "NoFunction" (by decide +kernel)) rfl) pa_nil))) (pa_cons (pe_callB call_isT (by rfl) T.isinstance (by decide +kernel) (pa_cons (pv 1) (pa_cons (pe_glob (v := .ref (cl "NoProgram")) (by rfl) (hcl "NoProgram" (by decide +kernel)) rfl) pa_nil))) pa_nil)))))
    (pss_cons (ps_set (i := 3) scHeard.nd rfl (Or.inl rfl) (pe_op op_cat (pv 3) (pe_lst (pa_cons (pe_callB call_isT (by rfl) T.isinstance (by decide +kernel) (pa_cons (pv 1) (pa_cons (pe_glob (v := .ref (cl "NoName")) (by rfl) (hcl "NoName" (by decide +kernel)) rfl) pa_nil))) (pa_cons (pe_callB call_isT (by rfl) T.isinstance (by decide +kernel) (pa_cons (pv 1) (pa_cons (pe_glob (v := .ref (cl "NoCase")) (by rfl) (hcl "NoCase" (by decide +kernel)) rfl) pa_nil))) (pa_cons (pe_callB call_isT (by rfl) T.isinstance (by decide +kernel) (pa_cons (pv 1) (pa_cons (pe_glob (v := .ref (cl "TooMany")) (by rfl) (hcl "TooMany" (by decide +kernel)) rfl) pa_nil))) pa_nil))))))
    (pss_cons (ps_expr (pe_bm PySem.F.plainAttrs_list PySem.F.slot_list_append PySem.F.type_list_append mt_append (pv 3) (pa_cons (pe_callB call_isTT (by rfl) T.isinstance (by decide +kernel) (pa_cons (pv 1) (pa_cons (pe_tup (pa_cons (pe_glob (v := .ref (cl "NoText")) (by rfl) (hcl "NoText" (by decide +kernel)) rfl) (pa_cons (pe_glob (v := .ref (cl "NoAct")) (by rfl) (hcl "NoAct" (by decide +kernel)) rfl) (pa_cons (pe_glob (v := .ref (cl "NoRecord")) (by rfl) (hcl "NoRecord" (by decide +kernel)) rfl) (pa_cons (pe_glob (v := .ref (cl "Barred")) (by rfl) (hcl "Barred" (by decide +kernel)) rfl) (pa_cons (pe_glob (v := .ref (cl "Unlike")) (by rfl) (hcl "Unlike" (by decide +kernel)) rfl) (pa_cons (pe_glob (v := .ref (cl "NoRow")) (by rfl) (hcl "NoRow" (by decide +kernel)) rfl) pa_nil))))))) pa_nil))) pa_nil)))
    (pss_cons (ps_if (PW.pt (pw_or (pt_cmpR op_ne (pe_bm PySem.F.plainAttrs_list PySem.F.slot_list_count PySem.F.type_list_count mt_lcountB (pv 3) (pa_cons pe_bl pa_nil)) pe_int (nomark _))
        (pw_or (pt_val (pe_ix ix_list (pv 3) pe_int (fun _ _ => rfl))) (pw_or1 (pt_not (pt_val (pe_callB call_isT (by rfl) T.isinstance (by decide +kernel) (pa_cons (pv 1) (pa_cons (pe_bltn (v := .ty "ValueError") (by rfl) tVE (by decide +kernel) rfl) pa_nil))))))))) (pss_one ps_dead) pss_nil)
    (pss_cons (ps_if (pt_cmpR op_in_seq pe_bl (pe_slice sl_list (pv 3) po_none (po_some pe_int)) rfl)
      (pss_one (ps_ret (pe_tup (pa_cons (pe_ix ix_list (pe_lst (pa_cons pe_str (pa_cons pe_str (pa_cons pe_str pa_nil)))) (pe_bm PySem.F.plainAttrs_list PySem.F.slot_list_index PySem.F.type_list_index mt_index (pv 3) (pa_cons pe_bl pa_nil)) (fun _ _ => rfl)) (pa_cons (pe_xt (pv 1)) (pa_cons (pe_xt (pv 1)) pa_nil)))))) pss_nil)
    (pss_cons ps_dead (pss_one ps_dead))))))))), ?_⟩
  · refine ⟨fun pins s' σ H' D I h' => ?_⟩
    obtain ⟨Ech, hW, h1, h2, h3⟩ := h'
    refine (pss_one (ps_ret (pe_lst (pa_cons (act W pn xe Ech _ _ tk hW) pa_nil)))).run pins s' σ H' D I ?_
    exact ⟨h1, h2, h3⟩
  · refine ⟨HMC X.K cl Q, fun cls d σ' H' hm hlen => ?_, rfl, hc, h⟩
    obtain ⟨D, dd, fs, v1, v2, rfl, rfl, hx, M, l1, l2, k⟩ := hm
    refine ⟨true, M.ex, fun _ a na => ?_, fun z => nomatch z⟩
    obtain ⟨s0, s1, s2, s3, rfl⟩ : ∃ s0 s1 s2 s3, σ' = [s0, s1, s2, s3] := by
      match σ', hlen with
      | [s0, s1, s2, s3], _ => exact ⟨s0, s1, s2, s3, rfl⟩
    have sE : Same H' (upd H' a (ExT (.ref D) (some dd) a)) := (Same.refl H').put na
    have ha : ∀ {H1 : Hp}, Same (upd H' a (ExT (.ref D) (some dd) a)) H1 → H1 a = some (ExT (.ref D) (some dd) a) := fun s => s _ _ upd_same
    have hd : ∀ {H1 : Hp}, Same (upd H' a (ExT (.ref D) (some dd) a)) H1 → H1 dd = some (.xd fs) := fun s => s _ _ (sE _ _ hx)
    generalize hHe : upd H' a (ExT (.ref D) (some dd) a) = He at *
    have r0 : Same He He := Same.refl He
    refine ⟨_, rfl, _, rfl, a, D, dd, fs, _, _, _, rfl, ha r0, hd r0, M.isC, fun _ r => r, M.k1, _, rfl, a, D, dd, fs, _, _, _, rfl, ha r0, hd r0, M.isC, fun _ r => r, M.k2, _, rfl, a, D, dd, fs, _, _, _, rfl, ha r0, hd r0, M.isC, fun _ r => r, M.k3, (by show 3 ≤ sizeLine; decide), fun p1 hp1 => ?_⟩
    have r1 := r0.put (o := .lst [.bl true, .bl false, .bl false]) hp1
    refine ⟨_, rfl, _, rfl, a, D, dd, fs, _, _, _, rfl, ha r1, hd r1, M.isC, fun _ r => r, M.k4, _, rfl, a, D, dd, fs, _, _, _, rfl, ha r1, hd r1, M.isC, fun _ r => r, M.k5, _, rfl, a, D, dd, fs, _, _, _, rfl, ha r1, hd r1, M.isC, fun _ r => r, M.k6, (by show 3 ≤ sizeLine; decide), fun p2 hp2 => ?_⟩
    have r2 := r1.put (o := .lst [.bl false, .bl false, .bl false]) (r1.free hp2)
    refine ⟨p1, p2, _, _, rfl, rfl, by rw [upd_ne (ne_of_none upd_same hp2), upd_same], upd_same, (by show 6 ≤ sizeLine; decide), fun p3 hp3 => ?_⟩
    have r3 := r2.put (o := .lst ([.bl true, .bl false, .bl false] ++ [.bl false, .bl false, .bl false])) (r2.free hp3)
    refine ⟨_, rfl, .inl ⟨rfl, _, SqL.of upd_same⟩, ?_⟩
    generalize hH3 : upd (upd (upd He p1 (.lst [.bl true, .bl false, .bl false])) p2 (.lst [.bl false, .bl false, .bl false])) p3 (.lst ([.bl true, .bl false, .bl false] ++ [.bl false, .bl false, .bl false])) = H3 at *
    have e3 : H3 p3 = some (.lst [.bl true, .bl false, .bl false, .bl false, .bl false, .bl false]) := by rw [← hH3, upd_same]; rfl
    refine ⟨_, rfl, (by show 6 ≤ sizeLine; decide), fun t ht => ?_⟩
    have r4 := r3.put (o := .tup [.ref (cl "NoText"), .ref (cl "NoAct"), .ref (cl "NoRecord"), .ref (cl "Barred"), .ref (cl "Unlike"), .ref (cl "NoRow")]) (r3.free ht)
    refine ⟨a, D, dd, t, fs, _, _, rfl, ha r4, hd r4, M.isC, upd_same, M.kt, p3, _, _, rfl, rfl, by rw [upd_ne (ne_of_none e3 ht)]; exact e3, (by show 6 < sizeLine; decide), ?_⟩
    have r5 : Same He (upd (upd H3 t (.tup [.ref (cl "NoText"), .ref (cl "NoAct"), .ref (cl "NoRecord"), .ref (cl "Barred"), .ref (cl "Unlike"), .ref (cl "NoRow")])) p3 (.lst ([.bl true, .bl false, .bl false, .bl false, .bl false, .bl false] ++ [.bl false]))) := fun b o e => by
      have n3 : b ≠ p3 := ne_of_none e (r2.free hp3)
      rw [upd_ne n3]
      exact r4 b o e
    generalize hH5 : upd (upd H3 t (.tup [.ref (cl "NoText"), .ref (cl "NoAct"), .ref (cl "NoRecord"), .ref (cl "Barred"), .ref (cl "Unlike"), .ref (cl "NoRow")])) p3 (.lst ([.bl true, .bl false, .bl false, .bl false, .bl false, .bl false] ++ [.bl false])) = H5 at *
    have e5 : H5 p3 = some (.lst [.bl true, .bl false, .bl false, .bl false, .bl false, .bl false, .bl false]) := by rw [← hH5, upd_same]; rfl
    refine ⟨_, rfl, .inl ⟨rfl, _, SqL.of e5⟩, p3, _, _, rfl, rfl, SqL.of e5, rfl, rfl, rfl, _, rfl, ite2 (fun z => absurd z (by decide)) fun _ => ?_⟩
    refine ⟨_, rfl, p3, _, 6, _, rfl, rfl, SqL.of e5, rfl, _, rfl, ite2 (fun z => absurd z (by decide)) fun _ => ?_⟩
    refine ⟨_, rfl, a, D, dd, fs, _, _, _, rfl, ha r5, hd r5, M.isC, fun _ r => r, M.kv, _, rfl, ite2 (fun z => absurd z (by decide)) fun _ => ?_⟩
    have ec : cutV [.bl true, .bl false, .bl false, .bl false, .bl false, .bl false, .bl false] none (some 3) = [.bl true, .bl false, .bl false] := by rfl
    refine ⟨_, rfl, 3, rfl, p3, _, rfl, SqL.of e5, fun p4 hp4 => ?_⟩
    rw [ec]
    have r6 := r5.put (o := .lst [.bl true, .bl false, .bl false]) (r5.free hp4)
    have e6 : (upd H5 p4 (.lst [.bl true, .bl false, .bl false])) p3 = some (.lst [.bl true, .bl false, .bl false, .bl false, .bl false, .bl false, .bl false]) := by rw [upd_ne (ne_of_none e5 hp4)]; exact e5
    refine ⟨p4, _, rfl, .inl (SqL.of upd_same), rfl, rfl, _, rfl, ite2 (fun _ => ?_) fun z => absurd rfl z⟩
    refine ⟨(by show 3 ≤ sizeLine; decide), fun p5 hp5 => ?_⟩
    have r7 := r6.put (o := .lst [.str "CLASS", .str "FUNCTION", .str "PROGRAM"]) (r6.free hp5)
    have e7 : (upd (upd H5 p4 (.lst [.bl true, .bl false, .bl false])) p5 (.lst [.str "CLASS", .str "FUNCTION", .str "PROGRAM"])) p3 = some (.lst [.bl true, .bl false, .bl false, .bl false, .bl false, .bl false, .bl false]) := by rw [upd_ne (ne_of_none e6 hp5)]; exact e6
    refine ⟨_, rfl, .inl ⟨rfl, _, SqL.of e7⟩, p3, _, _, 0, _, rfl, rfl, SqL.of e7, rfl, rfl, rfl, rfl, (fun m z h => absurd h (Nat.not_lt_zero m)), p5, _, _, _, rfl, rfl, SqL.of upd_same, atI_nat (j := 0) rfl, ?_⟩
    refine ⟨_, rfl, a, D, dd, fs, v1, rfl, ha r7, hd r7, M.xf, M.fw, l1, _, rfl, a, D, dd, fs, v2, rfl, ha r7, hd r7, M.xf, M.fm, l2, (by show 3 ≤ sizeLine; decide), fun t2 ht2 => ?_⟩
    exact k t2 _ (sE.trans (r7.put (r7.free ht2))) upd_same
end K2
end
section
set_option Elab.async false
set_option maxRecDepth 100000
set_option linter.all false
namespace K2
open PySem L2
/-! ### TooMany -/
abbrev sTMI : Stmt := inClass (top 13) 0
def spTMI (C : Addr) : Sp := fun vs H Q _ => ∃ (a : Addr) (v1 v2 : V), vs = [.ref a, v1, v2] ∧ H a = some (exo a C none) ∧
  ∀ (d : Addr) (H' : Hp), H d = none → d ≠ a → H' a = some (exo a C (some d)) → H' d = some (exd d [("most", v2), ("what", v1)]) → (∀ b o, H b = some o → b ≠ a → H' b = some o) → Q .non H'
structure TM (K : PySem.W.Frag) (mg : Str → Option Value) (C fI : Addr) : Prop where
  oex : OexC K C
  n1 : PySem.W.findIn K (.ref C) "what" = some none
  n2 : PySem.W.findIn K (.ref C) "most" = some none
  iC : PySem.W.findIn K (.ref C) "__init__" = some (some (.ref fI))
  tI : PySem.W.typeIn K (.ref fI) = some (.type "function")
  gC : mg "TooMany" = some (.ref C)
section
variable {P : Program} {w : World} {K : PySem.W.Frag} {mg : Str → Option Value} {base : Heap}
theorem scTMI : FnScope ["self", "what", "most"] ["self", "what", "most"] (defScope sTMI) := ⟨rfl, rfl, rfl, by decide +kernel, rfl, by decide +kernel, by decide +kernel⟩
theorem ok_tmi {f C : Addr} {fd : FuncData} (F : Fun K "__init__" "TooMany.__init__" sTMI f fd) (M : TM K mg C f) : FnOk P w K mg base CX0 1 f fd ["self", "what", "most"] (spTMI C) := by
  refine F.ok scTMI (fun vs H Q E h => ?_) (fun cdv A outer s H vs Q E hr h => ?_)
  · obtain ⟨a, v1, v2, rfl, _⟩ := h
    rfl
  · obtain ⟨a, v1, v2, rfl, ha, k⟩ := h
    refine ⟨_, pss_cons (ps_ost (pv 0) (pv 1)) (pss_one (ps_ost (pv 0) (pv 2))), ?_⟩
    refine ⟨_, rfl, _, rfl, a, C, rfl, M.oex, M.n1, .inl ⟨ha, fun d hd hne => ?_⟩⟩
    have e1 : (upd (upd H d (exd d [("what", v1)])) a (exo a C (some d))) d = some (exd d [("what", v1)]) := by rw [upd_ne hne, upd_same]
    refine ⟨_, rfl, _, rfl, a, C, rfl, M.oex, M.n2, .inr ⟨d, _, upd_same, e1, (by show 1 ≤ 900; decide), ?_⟩⟩
    refine k d _ hd hne (by rw [upd_ne (Ne.symm hne), upd_same]) upd_same fun b o hb n => ?_
    rw [upd_ne (ne_of_none hb hd), upd_ne n, upd_ne (ne_of_none hb hd)]
    exact hb
end
/-! ### lists of tuples of texts -/
def PAt (H : Hp) (as : List Addr) (ps : List (List Str)) : Prop := as.map H = ps.map fun xs => some (.tup (xs.map V.str))
theorem PAt.len {H : Hp} {as : List Addr} {ps : List (List Str)} (h : PAt H as ps) : as.length = ps.length := by
  have := congrArg List.length h
  rwa [List.length_map, List.length_map] at this
theorem PAt.get {H : Hp} {as : List Addr} {ps : List (List Str)} (h : PAt H as ps) {j : Nat} {b : Addr} (hb : as[j]? = some b) : ∃ xs, ps[j]? = some xs ∧ H b = some (.tup (xs.map V.str)) := by
  have e := congrArg (fun l => l[j]?) h
  simp only [List.getElem?_map] at e
  rw [hb] at e
  cases hp : ps[j]? with
  | none => rw [hp] at e; cases e
  | some xs =>
    rw [hp] at e
    exact ⟨xs, rfl, Option.some.inj e⟩
theorem PAt.mem {H : Hp} {as : List Addr} {ps : List (List Str)} (h : PAt H as ps) {b : Addr} (hb : b ∈ as) : ∃ xs ∈ ps, H b = some (.tup (xs.map V.str)) := by
  obtain ⟨j, hj⟩ := List.mem_iff_getElem?.mp hb
  obtain ⟨xs, h1, h2⟩ := h.get hj
  exact ⟨xs, List.mem_of_getElem? h1, h2⟩
theorem PAt.same {H H' : Hp} {as : List Addr} {ps : List (List Str)} (h : PAt H as ps) (s : ∀ b o, b ∈ as → H b = some o → H' b = some o) : PAt H' as ps := by
  unfold PAt
  rw [← h]
  apply List.map_congr_left
  intro b hb
  obtain ⟨xs, _, e⟩ := h.mem hb
  rw [e, s b _ hb e]
theorem PAt.app {H : Hp} {as bs : List Addr} {ps qs : List (List Str)} (h : PAt H as ps) (k : PAt H bs qs) : PAt H (as ++ bs) (ps ++ qs) := by
  unfold PAt
  rw [List.map_append, List.map_append, h, k]
theorem PAt.one {H : Hp} {b : Addr} {xs : List Str} (h : H b = some (.tup (xs.map V.str))) : PAt H [b] [xs] := by
  show [H b] = _
  rw [h]
  rfl
theorem PAt.strs {H : Hp} {as : List Addr} {ps : List (List Str)} (h : PAt H as ps) : as.map (strsAt H) = ps := by
  apply List.ext_getElem?
  intro j
  rw [List.getElem?_map]
  cases ha : as[j]? with
  | none =>
    have := h.len
    have h2 := List.getElem?_eq_none_iff.mp ha
    rw [List.getElem?_eq_none (by omega)]
    rfl
  | some b =>
    obtain ⟨xs, h1, h2⟩ := h.get ha
    rw [h1]
    show some (strsAt H b) = _
    rw [strsAt_of h2]
end K2
end
section
set_option Elab.async false
set_option maxRecDepth 100000
set_option linter.all false
namespace K2
open PySem L2
abbrev sKinds : Stmt := inClass (top 24) 9
abbrev nKinds : List Str := ["self", "parts", "name", "part"]
def spKinds (C CT : Addr) : Sp := fun vs H Q E => ∃ (p : Addr) (rs : List Row), vs = [.ref p] ∧ ClsW C H p rs ∧ (keys (ups rs)).Nodup ∧ (keys (ups rs)).length ≤ 40 ∧
  ((keys (ups rs)).length ≤ 6 → ∀ (r : Addr) (bs : List Addr) (S : List Str) (ys : List (List Str)) (H' : Hp), S.Perm (keys (ups rs)) → PyProof.Rows.sortedS S = true → H' r = some (.tup (bs.map V.ref)) → PAt H' bs ys → ys.Perm (growK (ups rs) S).tail → ys.Pairwise tle → Same H H' → Q (.ref r) H') ∧
  (6 < (keys (ups rs)).length → ∀ (d : Addr) (H' : Hp), Same H H' → H' d = some (.xd [("most", .int 6), ("what", .str "classes")]) → E (.ref CT) (some d) H')
theorem growK_take {tb : Tb} {S : List Str} {i : Nat} {n : Str} (h : S[i]? = some n) : growK tb (S.take (i + 1)) = stepK tb (growK tb (S.take i)) n := by
  rw [List.take_add_one, h]
  exact growK_snoc tb _ n
theorem growK_len {tb : Tb} : ∀ (S : List Str) (ps : List (List Str)), (S.foldl (stepK tb) ps).length ≤ ps.length * 2 ^ S.length
  | [], ps => by simp
  | n :: S, ps => by
    rw [List.foldl_cons]
    have h := growK_len (tb := tb) S (stepK tb ps n)
    have h2 : (stepK tb ps n).length ≤ ps.length * 2 := by
      unfold stepK
      rw [List.length_append, List.length_map]
      have := List.length_filter_le (fun p => apart tb n p) ps
      omega
    have h3 := Nat.mul_le_mul_right (2 ^ S.length) h2
    rw [List.length_cons, Nat.pow_succ, Nat.mul_comm (2 ^ S.length) 2, ← Nat.mul_assoc]
    omega
theorem growK_mem {tb : Tb} : ∀ (S : List Str) (ps : List (List Str)), ∀ x ∈ S.foldl (stepK tb) ps, ∃ y ∈ ps, ∃ z, x = y ++ z ∧ z.length ≤ S.length ∧ ∀ u ∈ z, u ∈ S
  | [], ps, x, h => ⟨x, h, [], by simp, by simp, by simp⟩
  | n :: S, ps, x, h => by
    rw [List.foldl_cons] at h
    obtain ⟨y, hy, z, rfl, hz, hm⟩ := growK_mem S (stepK tb ps n) x h
    unfold stepK at hy
    rcases List.mem_append.mp hy with hy | hy
    · exact ⟨y, hy, z, rfl, by rw [List.length_cons]; omega, fun u hu => List.mem_cons_of_mem _ (hm u hu)⟩
    · obtain ⟨y', h', rfl⟩ := List.mem_map.mp hy
      refine ⟨y', (List.mem_filter.mp h').1, n :: z, by simp, by simp; exact hz, fun u hu => ?_⟩
      rcases List.mem_cons.mp hu with rfl | hu
      · exact List.mem_cons_self
      · exact List.mem_cons_of_mem _ (hm u hu)
theorem growK_in {tb : Tb} {S : List Str} {x : List Str} (h : x ∈ growK tb S) : x.length ≤ S.length ∧ ∀ u ∈ x, u ∈ S := by
  obtain ⟨y, hy, z, rfl, hz, hm⟩ := growK_mem S [[]] x h
  rw [List.mem_singleton.mp hy, List.nil_append]
  exact ⟨hz, hm⟩
theorem growK_sz {tb : Tb} {S : List Str} (h : S.length ≤ 6) : (growK tb S).length ≤ 64 := by
  have := growK_len (tb := tb) S [[]]
  have h2 : 2 ^ S.length ≤ 2 ^ 6 := Nat.pow_le_pow_right (by decide) h
  unfold growK
  simp at this
  omega
theorem cutT (x : V) (xs : List V) : cutV (x :: xs) (some 1) none = xs := by
  unfold cutV
  rw [show (1 : Int) = ((1 : Nat) : Int) from rfl, HT.sIx_nat, HT.sIx_none]
  have : min 1 (x :: xs).length = 1 := by simp
  rw [this]
  show xs.take ((x :: xs).length - 1) = xs
  rw [List.take_of_length_le (by simp)]
theorem PAt.of {H : Hp} : ∀ {as : List Addr}, (∀ b ∈ as, ∃ xs : List Str, H b = some (.tup (xs.map V.str))) → PAt H as (as.map (strsAt H))
  | [], _ => rfl
  | a :: as, h => by
    obtain ⟨xs, e⟩ := h a List.mem_cons_self
    have ih := PAt.of (as := as) fun b hb => h b (List.mem_cons_of_mem _ hb)
    unfold PAt at ih ⊢
    rw [List.map_cons, List.map_cons, List.map_cons, ih, strsAt_of e, e]
section
variable {P : Program} {w : World} {K : PySem.W.Frag} {mg : Str → Option Value} {base : Heap}
theorem scKinds : FnScope nKinds ["self"] (defScope sKinds) := ⟨rfl, rfl, rfl, by decide +kernel, rfl, by decide +kernel, by decide +kernel⟩
theorem ok_kinds {f C CT fA fI : Addr} {t6 : Tok} {fd fdA fdI : FuncData} (F : Fun K "kinds" "Classes.kinds" sKinds f fd) (X : Txt K mg C) (T : Bi mg) (tSo : mg "sorted" = none) (g6 : mg "MOST_FOR_KINDS" = some (.int 6 t6))
    (mA : Meth K C "_is_apart" fA) (GA : FnOk P w K mg base CX0 3 fA fdA ["self", "name", "part"] (spIA C)) (bA : Binds K fdA ["self", "name", "part"] [])
    (M : TM K mg CT fI) (GI : FnOk P w K mg base CX0 1 fI fdI ["self", "what", "most"] (spTMI CT)) (bI : Binds K fdI ["self", "what", "most"] []) :
    FnOk P w K mg base (L2.CX P w) 4 f fd ["self"] (spKinds C CT) := by
  refine F.okX scKinds (fun vs H Q E h => ?_) (fun cdv A outer s H vs Q E hr h => ?_)
  · obtain ⟨p, rs, rfl, _⟩ := h
    rfl
  · obtain ⟨p, rs, rfl, cw, nd, h40, kQ, kE⟩ := h
    have hr3 : Room 3 _ := hr
    have hr2 : Room 2 _ := hr.mono (by decide)
    have hu := hu_of hr
    refine ⟨_, (pss_cons (ps_if (pt_cmpR op_gt (pe_callB call_len_seq (by rfl) T.len PySem.boot_len (pa_cons (pe_fld (pv 0) rfl) pa_nil)) (pe_glob (v := .int 6) rfl g6 ⟨_, rfl⟩) (nomark _))
        (pss_one (ps_raise rfl (takes_of rfl rfl rfl rfl) (pmk_oex M.oex M.iC M.tI GI hr2 bI .nil pass0 (by rfl) M.gC (pa_cons pe_str (pa_cons (pe_glob (v := .int 6) rfl g6 ⟨_, rfl⟩) pa_nil))))) pss_nil)
      (PSs.nox (pss_cons (ps_set (i := 1) scKinds.nd rfl (Or.inl rfl) (pe_lst (pa_cons (pe_tup pa_nil) pa_nil)))
      (pss_cons (ps_for PassesOwn.never rfl (pi_list (pe_callB cr_sortedST (by rfl) tSo (by decide +kernel) (pa_cons (pe_fld (pv 0) rfl) pa_nil))) (pg_name (i := 2) scKinds.nd rfl (Or.inr rfl))
        (pss_one (ps_set (i := 1) scKinds.nd rfl (Or.inl rfl) (pe_op op_cat (pv 1) (pe_lc (own := [("part", 3)]) (g := gName 3) rfl scKinds.nd (pi_list (pv 1)) (blkOk_by (N := nKinds) (sc := defScope sKinds) (by decide +kernel)) (fun _ _ _ _ _ => pg_name (i := 3) scKinds.nd rfl (Or.inl rfl))
          (fun _ _ _ _ _ => pts_one (pt_val (pe_meth (pv 0) X.cl mA GA hr3 bA .nil pass0 (pa_cons (pv 2) (pa_cons (pv 3) pa_nil))))) (fun _ _ _ _ _ => pe_op op_cat2 (pv 3) (pe_tup (pa_cons (pv 2) pa_nil))))))))
      (pss_one (ps_ret (pe_callTy call_tuple_of (by rfl) T.tuple (by decide +kernel) (pa_cons (pe_callB cr_sortedTS (by rfl) tSo (by decide +kernel) (pa_cons (pe_slice sl_list (pv 1) (po_some pe_int) po_none) pa_nil)) pa_nil)))))))), ?_⟩
    have cw0 := cw
    obtain ⟨dx, r, n, l, kvs, ts, h1, h2, h3, h4, h5, h6⟩ := cw
    refine ⟨_, rfl, p, C, dx, _, _, rfl, h1, X.cl, X.nN, flds_names _ _ _, n, _, rfl, .inr (SqT.of h4), ?_⟩
    refine ⟨_, _, rfl, rfl, _, rfl, ite2 (fun z => ?_) fun z => ?_⟩
    · have hlen : 6 < (keys (ups rs)).length := by
        have := of_decide_eq_true z
        rw [List.length_map] at this
        omega
      refine ⟨(by show 2 ≤ 1000; decide), fun a ha => ⟨a, _, _, rfl, upd_same, fun d H' hd hne e1 e2 k => ?_⟩⟩
      rw [upd_ne hne] at hd
      refine ⟨rfl, d, _, e1, e2, hd, kE hlen d _ (fun b o hb => ?_) upd_same⟩
      have n1 := ne_of_none hb hd
      have n2 := ne_of_none hb ha
      rw [upd_ne n1, del_ne n2]
      exact k b o (by rw [upd_ne n2]; exact hb) n2
    · have hlen : (keys (ups rs)).length ≤ 6 := by
        have : ¬ (6 : Int) < ((((keys (ups rs)).map V.str).length : Nat) : Int) := fun q => z (decide_eq_true q)
        rw [List.length_map] at this
        omega
      have kQ := kQ hlen
      refine ⟨Nat.zero_le _, fun e he => ⟨(by show 1 ≤ sizeLine; decide), fun l0 hl0 => ?_⟩⟩
      have s1 := (Same.refl H).put (o := .tup []) he
      have s2 := s1.put (o := .lst [.ref e]) (s1.free hl0)
      have pa0 : PAt (upd (upd H e (.tup [])) l0 (.lst [.ref e])) [e] [[]] := PAt.one (by rw [upd_ne (ne_of_none upd_same hl0), upd_same]; rfl)
      have el0 : (upd (upd H e (.tup [])) l0 (.lst [.ref e])) l0 = some (.lst ([e].map V.ref)) := upd_same
      generalize hH0 : upd (upd H e (.tup [])) l0 (.lst [.ref e]) = H0 at *
      refine ⟨_, rfl, p, C, dx, _, _, rfl, s2 _ _ h1, X.cl, X.nN, flds_names _ _ _, n, _, rfl, SqT.of (s2 _ _ h4), by omega, fun S q hS hso hq => ?_⟩
      have hSl : S.length ≤ 6 := by rw [hS.length_eq]; exact hlen
      have sq := s2.put (o := .lst (S.map V.str)) (s2.free hq)
      have eq0 : (upd H0 q (.lst (S.map V.str))) q = some (.lst (S.map V.str)) := upd_same
      have pa1 : PAt (upd H0 q (.lst (S.map V.str))) [e] [[]] := pa0.same fun b o _ hb => by rw [upd_ne (ne_of_none hb hq)]; exact hb
      have el1 : (upd H0 q (.lst (S.map V.str))) l0 = some (.lst ([e].map V.ref)) := by rw [upd_ne (ne_of_none el0 hq)]; exact el0
      clear hH0 pa0 el0
      generalize upd H0 q (.lst (S.map V.str)) = H1 at *
      refine ⟨q, rfl, ⟨_, SqL.of eq0⟩, ?_⟩
      refine for_list (K := K) (a := q) (xs := S.map V.str) (fun i σ Hc => ∃ (li : Addr) (as : List Addr) (v2 v3 : Option V), σ = [some (.ref p), some (.ref li), v2, v3] ∧ Hc li = some (.lst (as.map V.ref)) ∧ PAt Hc as (growK (ups rs) (S.take i)) ∧ Hc q = some (.lst (S.map V.str)) ∧ Same H Hc) ?_ ?_ ?_ ?_
      · exact ⟨l0, [e], _, _, rfl, el1, pa1, eq0, sq⟩
      · rintro i σ Hc _ ⟨li, as, v2, v3, rfl, g1, g2, g3, sm⟩
        exact SqL.of g3
      · rintro i x σ Hc hx ⟨li, as, v2, v3, rfl, g1, g2, g3, sm⟩
        rw [List.getElem?_map] at hx
        obtain ⟨nm, hnm, rfl⟩ : ∃ nm, S[i]? = some nm ∧ V.str nm = x := by
          cases hq2 : S[i]? with
          | none => rw [hq2] at hx; cases hx
          | some nm => rw [hq2] at hx; exact ⟨nm, rfl, Option.some.inj hx⟩
        have hnk : nm ∈ keys (ups rs) := hS.mem_iff.mp (List.mem_of_getElem? hnm)
        have gs : (growK (ups rs) (S.take i)).length ≤ 64 := growK_sz (by rw [List.length_take]; omega)
        rw [growK_take hnm]
        have gin : ∀ x ∈ growK (ups rs) (S.take i), x.length ≤ 6 ∧ ∀ u ∈ x, u ∈ keys (ups rs) := fun x hx => by
          obtain ⟨a, b⟩ := growK_in hx
          rw [List.length_take] at a
          exact ⟨by omega, fun u hu => hS.mem_iff.mp (List.mem_of_mem_take (b u hu))⟩
        generalize growK (ups rs) (S.take i) = G at *
        have hal := g2.len
        refine ⟨_, rfl, _, rfl, li, rfl, ⟨_, SqL.of g1⟩, fun D hD => ?_⟩
        refine lc_list (K := K) (a := li) (xs := as.map V.ref) (fun j Hd => ∃ bs : List Addr, Hd D = some (.lst (bs.map V.ref)) ∧ PAt Hd bs (((G.take j).filter fun p => apart (ups rs) nm p).map fun p => p ++ [nm]) ∧ Same Hc Hd) ?_ ?_ ?_ ?_
        · exact ⟨[], upd_same, rfl, (Same.refl Hc).put hD⟩
        · rintro j Hd _ ⟨bs, _, _, sd⟩
          exact SqL.of (sd li _ g1)
        · rintro j y Hd hy ⟨bs, b1, b2, sd⟩
          rw [List.getElem?_map] at hy
          obtain ⟨b, hb, rfl⟩ : ∃ b, as[j]? = some b ∧ V.ref b = y := by
            cases hq2 : as[j]? with
            | none => rw [hq2] at hy; cases hy
            | some b => rw [hq2] at hy; exact ⟨b, rfl, Option.some.inj hy⟩
          obtain ⟨xs, hxs, hbt⟩ := g2.get hb
          have hxm := gin xs (List.mem_of_getElem? hxs)
          have et : G.take (j + 1) = G.take j ++ [xs] := by rw [List.take_add_one, hxs]; rfl
          obtain ⟨dxp, fsp, hp1, hp2⟩ := (cw0.at.same (sm.trans sd)).ins
          have hp2 := hp2 "_is_apart" (by decide +kernel) (by decide +kernel) (by decide +kernel)
          refine ⟨rfl, _, rfl, p, dxp, fsp, rfl, hp1, hp2, _, rfl, _, rfl, p, b, nm, xs, ups rs, rfl, cw0.at.same (sm.trans sd), sd _ _ hbt, hnk, hxm.2, by omega, fun H2 s3 => ⟨_, rfl, ite2 (fun z => ?_) fun z => ?_⟩⟩
          · refine ⟨_, rfl, _, rfl, (by show 1 ≤ sizeLine; decide), fun t1 ht1 => ?_⟩
            have ht1' : H2 t1 = none := ht1
            have sx := (s3.put (o := .tup [.str nm]) (s3.free ht1'))
            refine ⟨b, t1, _, _, rfl, rfl, sx _ _ (sd _ _ hbt), upd_same, ?_, fun t2 H3 s4 ht2 => ?_⟩
            · rw [List.length_map]; show _ + 1 ≤ 16777216; omega
            have s5 : Same Hd H3 := sx.trans s4
            refine ⟨_, s5 _ _ b1, ?_, bs ++ [t2], ?_, ?_, ?_⟩
            · have := b2.len
              rw [List.length_map] at this
              have h2 := List.length_filter_le (fun p => apart (ups rs) nm p) (G.take j)
              rw [List.length_take] at h2
              rw [List.length_map]; show _ < 16777216; omega
            · rw [upd_same, List.map_append]; rfl
            · rw [et, List.filter_append, List.map_append, List.filter_cons, if_pos z]
              have nD : ∀ (b : Addr) (o : List V), H3 b = some (.tup o) → b ≠ D := fun b o hb => ne_of hb (s5 _ _ b1) (by intro z; cases z)
              refine PAt.app (b2.same fun b o hb hbo => ?_) (PAt.one ?_)
              · obtain ⟨ys, _, e⟩ := b2.mem hb
                have e2 := s5 _ _ e
                rw [upd_ne (nD _ _ e2)]
                exact s5 _ _ hbo
              · rw [upd_ne (nD _ _ ht2), ht2, List.map_append]
                rfl
            · exact (sd.trans s5).put hD
          · refine ⟨bs, s3 _ _ b1, ?_, sd.trans s3⟩
            rw [et, List.filter_append, List.filter_cons, if_neg z, List.filter_nil, List.append_nil]
            exact b2.same fun b o _ hb => s3 _ _ hb
        · rintro Hd ⟨bs, b1, b2, sd⟩
          rw [List.length_map, hal, List.take_length] at b2
          have hbl := b2.len
          rw [List.length_map] at hbl
          have hfl := List.length_filter_le (fun p => apart (ups rs) nm p) G
          refine ⟨li, D, _, _, rfl, rfl, sd _ _ g1, b1, ?_, fun l2 hl2 => ?_⟩
          · rw [List.length_map, List.length_map]; show _ ≤ 16777216; omega
          have sn : Same Hd (upd Hd l2 (.lst (as.map V.ref ++ bs.map V.ref))) := (Same.refl Hd).put hl2
          refine ⟨l2, as ++ bs, _, _, rfl, by rw [upd_same, List.map_append], ?_, sn _ _ (sd _ _ g3), (sm.trans sd).trans sn⟩
          exact PAt.app (g2.same fun b o _ hb => sn _ _ (sd _ _ hb)) (b2.same fun b o _ hb => sn _ _ hb)
      · rintro σ Hc ⟨li, as, v2, v3, rfl, g1, g2, g3, sm⟩
        rw [List.length_map, List.take_length] at g2
        have nS : S.Nodup := hS.nodup_iff.mpr nd
        have gt := grow_tail (ups rs) S nS
        have gz := growK_sz (tb := ups rs) hSl
        have gne : ∀ x ∈ (growK (ups rs) S).tail, x ≠ [] := fun x hx => by
          rw [gt, List.tail_cons] at hx
          obtain ⟨m, hm, rfl⟩ := List.mem_map.mp (List.mem_filter.mp hx).1
          have := List.mem_range.mp hm
          exact masked_ne S (m + 1) (by omega) (by omega)
        obtain ⟨a0, as', rfl⟩ : ∃ a0 as', as = a0 :: as' := by
          have := g2.len
          rw [gt] at this
          cases as with
          | nil => simp at this
          | cons a0 as' => exact ⟨a0, as', rfl⟩
        have gp : PAt Hc as' (growK (ups rs) S).tail := by
          rw [gt] at g2 ⊢
          exact List.tail_eq_of_cons_eq g2
        generalize hG : (growK (ups rs) S).tail = G at *
        refine ⟨_, rfl, 1, rfl, li, _, rfl, SqL.of g1, fun l3 hl3 => ?_⟩
        have ecut : cutV ((a0 :: as').map V.ref) (some 1) none = as'.map V.ref := cutT _ _
        rw [ecut]
        have s3 := sm.put (o := .lst (as'.map V.ref)) (sm.free hl3)
        have gp3 : PAt (upd Hc l3 (.lst (as'.map V.ref))) as' G := gp.same fun b o _ hb => by rw [upd_ne (ne_of_none hb hl3)]; exact hb
        have e3 : (upd Hc l3 (.lst (as'.map V.ref))) l3 = some (.lst (as'.map V.ref)) := upd_same
        generalize upd Hc l3 (.lst (as'.map V.ref)) = H3 at *
        refine ⟨l3, as', rfl, SqL.of e3, fun b hb => ?_, fun bs p2 hp hpw hp2 => ?_⟩
        · obtain ⟨xs, hx, e⟩ := gp3.mem hb
          exact ⟨xs, gne xs hx, e⟩
        · have s4 := s3.put (o := .lst (bs.map V.ref)) (s3.free hp2)
          refine ⟨p2, _, rfl, .inl ⟨SqL.of upd_same, fun rr hrr => ?_⟩⟩
          have s5 := s4.put (o := .tup (bs.map V.ref)) (s4.free hrr)
          refine kQ rr bs S (bs.map (strsAt H3)) _ hS hso upd_same ?_ ?_ hpw s5
          · have p3 : PAt H3 bs (bs.map (strsAt H3)) := PAt.of fun b hb => by
              obtain ⟨xs, _, e⟩ := gp3.mem (hp.mem_iff.mp hb)
              exact ⟨xs, e⟩
            refine p3.same fun b o _ hb => ?_
            have q1 : (upd H3 p2 (.lst (bs.map V.ref))) b = some o := by rw [upd_ne (ne_of_none hb hp2)]; exact hb
            rw [upd_ne (ne_of_none q1 hrr)]
            exact q1
          · have := hp.map (strsAt H3)
            rw [gp3.strs] at this
            rw [hG]
            exact this
end
end K2
end
section
set_option Elab.async false
set_option maxRecDepth 100000
set_option linter.all false
namespace K2
open PySem L2
theorem strs_dp (K : PySem.W.Frag) (H : Hp) : ∀ xs : List Str, DpAll K H (xs.map V.str) (xs.map PyData.str)
  | [] => .nil
  | x :: xs => .cons (.str x) (strs_dp K H xs)
def sOk (x : Str) : Bool := x.cps.all (· < 0x110000)
theorem strs_lay : ∀ xs : List Str, (∀ x ∈ xs, sOk x = true) → PyData.canLayAll0 (xs.map PyData.str) = true
  | [], _ => rfl
  | x :: xs, h => by
    show (sOk x && PyData.canLayAll0 (xs.map PyData.str)) = true
    rw [strs_lay xs fun y hy => h y (List.mem_cons_of_mem _ hy), h x List.mem_cons_self]
    rfl
theorem strs_depth : ∀ xs : List Str, PyData.depthAll (xs.map PyData.str) = 0
  | [] => rfl
  | x :: xs => by
    show max 0 (PyData.depthAll (xs.map PyData.str)) = 0
    rw [strs_depth xs]
    rfl
theorem strs_shaped (xs : List Str) (h : ∀ x ∈ xs, sOk x = true) : SeqAt.shaped (.list (xs.map PyData.str)) = true := by
  show (PyData.canLayAll0 (xs.map PyData.str) && decide (PyData.depthAll (xs.map PyData.str) + 1 ≤ 64)) = true
  rw [strs_lay xs h, strs_depth]
  rfl
theorem strs_eqv0 (xs : List Str) : PyData.eqv (.list (xs.map PyData.str)) (.list []) = decide (xs = []) := by
  cases xs with
  | nil => rfl
  | cons x xs => rfl
theorem rising_pw : ∀ (p : Str) (l : List Str), PyProof.Rows.risingS p l = true → (p :: l).Pairwise (fun a b => PySem.Spec.ltCps b.cps.toList a.cps.toList = false)
  | p, [], _ => List.pairwise_singleton _ _
  | p, x :: r, h => by
    have h2 := Bool.and_eq_true_iff.mp (show (!PySem.Spec.ltCps x.cps.toList p.cps.toList && PyProof.Rows.risingS x r) = true from h)
    have ih := rising_pw x r h2.2
    have h1 : PySem.Spec.ltCps x.cps.toList p.cps.toList = false := by simpa using h2.1
    refine List.pairwise_cons.mpr ⟨fun y hy => ?_, ih⟩
    rcases List.mem_cons.mp hy with rfl | hy
    · exact h1
    · have h3 := (List.pairwise_cons.mp ih).1 y hy
      rw [PyProof.Rows.ltCps_eq, decide_eq_false_iff_not] at h1 h3 ⊢
      exact List.le_trans (α := Nat) (l₁ := p.cps.toList) (l₂ := x.cps.toList) (l₃ := y.cps.toList) h1 h3
theorem sorted_pw : ∀ l : List Str, PyProof.Rows.sortedS l = true → l.Pairwise (fun a b => PySem.Spec.ltCps b.cps.toList a.cps.toList = false)
  | [], _ => .nil
  | x :: r, h => rising_pw x r h
theorem sorted_sub {l l' : List Str} (h : PyProof.Rows.sortedS l' = true) (s : l.Sublist l') : PyProof.Rows.sortedS l = true := PyProof.Rows.sortedS_of_pairwise l ((sorted_pw l' h).sublist s)
/-- ascending lists of the same unlike texts are one -/
theorem sorted_one : ∀ {l l' : List Str}, l.Nodup → l'.Nodup → PyProof.Rows.sortedS l = true → PyProof.Rows.sortedS l' = true → (∀ y, y ∈ l ↔ y ∈ l') → l = l' := by
  have anti : ∀ {a b : Str}, PySem.Spec.ltCps a.cps.toList b.cps.toList = false → PySem.Spec.ltCps b.cps.toList a.cps.toList = false → a = b := fun {a b} h1 h2 => by
    rw [PyProof.Rows.ltCps_eq, decide_eq_false_iff_not] at h1 h2
    have e : a.cps.toList = b.cps.toList := List.le_antisymm (α := Nat) h2 h1
    have e2 : a.cps = b.cps := Array.toList_inj.mp e
    cases a
    cases b
    cases e2
    rfl
  intro l
  induction l with
  | nil =>
    intro l' _ _ _ _ h
    cases l' with
    | nil => rfl
    | cons y r => exact absurd ((h y).mpr List.mem_cons_self) (by simp)
  | cons x l ih =>
    intro l' n1 n2 s1 s2 h
    cases l' with
    | nil => exact absurd ((h x).mp List.mem_cons_self) (by simp)
    | cons y r =>
      have p1 := List.pairwise_cons.mp (sorted_pw _ s1)
      have p2 := List.pairwise_cons.mp (sorted_pw _ s2)
      have e : x = y := by
        rcases List.mem_cons.mp ((h x).mp List.mem_cons_self) with q | q
        · exact q
        · rcases List.mem_cons.mp ((h y).mpr List.mem_cons_self) with q2 | q2
          · exact q2.symm
          · exact anti (p2.1 x q) (p1.1 y q2)
      subst e
      have m1 := List.nodup_cons.mp n1
      have m2 := List.nodup_cons.mp n2
      rw [ih m1.2 m2.2 (sorted_sub s1 (List.sublist_cons_self _ _)) (sorted_sub s2 (List.sublist_cons_self _ _)) fun z => ?_]
      constructor
      · intro hz
        rcases List.mem_cons.mp ((h z).mp (List.mem_cons_of_mem _ hz)) with q | q
        · exact absurd (q ▸ hz) m1.1
        · exact q
      · intro hz
        rcases List.mem_cons.mp ((h z).mpr (List.mem_cons_of_mem _ hz)) with q | q
        · exact absurd (q ▸ hz) m2.1
        · exact q
theorem Least.one {tb : Tb} {xs xs' ys ys' : List Str} (h : Least tb xs ys) (h' : Least tb xs' ys') (e : ∀ y, y ∈ xs ↔ y ∈ xs') : ys = ys' :=
  sorted_one h.nd h'.nd h.so h'.so fun y => by
    rw [h.me, h'.me, e y]
    exact and_congr_right fun _ => ⟨fun q z hz => q z ((e z).mpr hz), fun q z hz => q z ((e z).mp hz)⟩
def above (tb : Tb) (xs : List Str) (y : Str) : List Str := xs.filter fun z => decide (z ≠ y) && decide (y ∈ look tb z)
def lowB (tb : Tb) (xs : List Str) (y : Str) : Bool := decide (above tb xs y = [])
/-- a dict of the heap, locked or not -/
def DL (H : Hp) (d : Addr) (kvs : List (Key × V)) : Prop := H d = some (.dK kvs) ∨ ∃ od, H d = some (.frz od (.dK kvs))
theorem DL.same {H H' : Hp} {d : Addr} {kvs : List (Key × V)} (h : DL H d kvs) (s : Same H H') : DL H' d kvs := by
  rcases h with h | ⟨od, h⟩
  · exact .inl (s _ _ h)
  · exact .inr ⟨od, s _ _ h⟩
theorem DL.get {H : Hp} {d : Addr} {kvs : List (Key × V)} {x : Str} {v : V} (h : DL H d kvs) (e : valV kvs (Sum.inr x : Key) = some v) : DGet H d (.str x) (some v) := by
  rcases h with h | ⟨od, h⟩
  · exact dget_s h e
  · exact .inl ⟨kvs, Sum.inr x, .inr ⟨od, h⟩, rfl, e.symm⟩
end K2
end
section
set_option Elab.async false
set_option maxRecDepth 100000
set_option linter.all false
namespace K2
open PySem L2 PySem.Spec PyProof.Rows
def rReprD (K : PySem.W.Frag) : List V → Hp → VK → Prop := fun xs H Q => ∃ a d, xs = [V.ref a] ∧ Dp K H (.ref a) d ∧ d.showable = true ∧ d.hasDict = false ∧ d.depth ≤ 8 ∧ d.shown.length ≤ sizeLine ∧ Q (.str d.shown) H
section
variable {X : Cx}
theorem call_reprD (gu : X.A.guards = some []) (hu : X.A.units + 64 < cLine) : CallR X (.builtin "repr") (rReprD X.K) := by
  intro pins s σ H xs us Q I r h
  obtain ⟨a, d, rfl, hd, hs, hn, dp, hz, q⟩ := h
  obtain ⟨u, rfl, ru⟩ := r.one
  cases ru
  obtain ⟨as, rd⟩ := Dp.reads I d (V.ref a) (Value.ref a) hd rfl
  exact repr_of_reads' rd hs (fun z => by rw [hn] at z; cases z) gu (by omega) (fun b o e => e) (fun h' u tk hk => ⟨.str _, H, I.kept (t' := tk) hk, ⟨u, rfl⟩, q⟩) hz
end
/-- a tuple of texts -/
def tD (ys : List Str) : PyData := .tuple (ys.map PyData.str)
theorem strs_show : ∀ xs : List Str, PyData.showableAll (xs.map PyData.str) = true
  | [] => rfl
  | x :: xs => by
    show (true && PyData.showableAll (xs.map PyData.str)) = true
    rw [strs_show xs]
    rfl
theorem strs_nodict : ∀ xs : List Str, PyData.hasDictAll (xs.map PyData.str) = false
  | [] => rfl
  | x :: xs => by
    show (false || PyData.hasDictAll (xs.map PyData.str)) = false
    rw [strs_nodict xs]
    rfl
theorem strs_weight : ∀ xs : List Str, (∀ x ∈ xs, x.length ≤ 8) → PyData.weightAll (xs.map PyData.str) ≤ 9 * xs.length
  | [], _ => Nat.le_refl _
  | x :: xs, h => by
    have ih := strs_weight xs fun y hy => h y (List.mem_cons_of_mem _ hy)
    have hx : x.cps.size ≤ 8 := h x List.mem_cons_self
    show x.cps.size + 1 + PyData.weightAll (xs.map PyData.str) ≤ 9 * (xs.length + 1)
    omega
theorem tD_show (ys : List Str) : (tD ys).showable = true := strs_show ys
theorem tD_nodict (ys : List Str) : (tD ys).hasDict = false := strs_nodict ys
theorem tD_depth (ys : List Str) : (tD ys).depth = 1 := by
  show PyData.depthAll (ys.map PyData.str) + 1 = 1
  rw [strs_depth]
theorem tD_fits {ys : List Str} (ok : ∀ y ∈ ys, sOk y = true) (h8 : ∀ y ∈ ys, y.length ≤ 8) (hl : ys.length ≤ 40) : (tD ys).shown.length ≤ sizeLine := by
  refine PyData.shown_fits_of_layable0 (B := 13) (by decide) (by decide) ?_ (PyData.intsShortAll_strs 13 ys)
  have w := strs_weight ys h8
  have q : PyData.weight (tD ys) = PyData.weightAll (ys.map PyData.str) := rfl
  show (PyData.canLayAll0 (ys.map PyData.str) && decide (PyData.depth (tD ys) ≤ 64) && decide (PyData.weight (tD ys) ≤ 2 ^ 20)) = true
  rw [strs_lay ys ok, tD_depth, q]
  simp only [Bool.true_and, Bool.and_eq_true, decide_eq_true_eq]
  omega
/-! rows shown -/
def rowsD (rs : List Row) : PyData := .tuple (rs.map fun r => tD (r.1 :: r.2))
theorem rows_dp (K : PySem.W.Frag) {H : Hp} : ∀ (rs : List Row) (ts : List Addr), RowsAt H ts rs → DpAll K H (ts.map V.ref) (rs.map fun r => tD (r.1 :: r.2))
  | [], [], _ => .nil
  | [], _ :: _, h => absurd h.1 (by simp)
  | _ :: _, [], h => absurd h.1 (by simp)
  | r :: rs, t :: ts, h => .cons (.tup (SqT.of (h.2 0 t r rfl rfl)) (strs_dp K H (r.1 :: r.2))) (rows_dp K rs ts ⟨by have := h.1; simpa using this, fun i u q a b => h.2 (i + 1) u q a b⟩)
theorem rows_show : ∀ rs : List Row, PyData.showableAll (rs.map fun r => tD (r.1 :: r.2)) = true
  | [] => rfl
  | r :: rs => by
    show (PyData.showable (tD (r.1 :: r.2)) && PyData.showableAll (rs.map fun r => tD (r.1 :: r.2))) = true
    rw [tD_show, rows_show rs]
    rfl
theorem rows_nodict : ∀ rs : List Row, PyData.hasDictAll (rs.map fun r => tD (r.1 :: r.2)) = false
  | [] => rfl
  | r :: rs => by
    show (PyData.hasDict (tD (r.1 :: r.2)) || PyData.hasDictAll (rs.map fun r => tD (r.1 :: r.2))) = false
    rw [tD_nodict, rows_nodict rs]
    rfl
theorem rows_depth : ∀ rs : List Row, PyData.depthAll (rs.map fun r => tD (r.1 :: r.2)) ≤ 1
  | [] => Nat.zero_le _
  | r :: rs => by
    show max (PyData.depth (tD (r.1 :: r.2))) (PyData.depthAll (rs.map fun r => tD (r.1 :: r.2))) ≤ 1
    rw [tD_depth]
    exact Nat.max_le.mpr ⟨Nat.le_refl _, rows_depth rs⟩
structure RowFit (r : Row) : Prop where
  ok : ∀ y ∈ r.1 :: r.2, sOk y = true
  h8 : ∀ y ∈ r.1 :: r.2, y.length ≤ 8
  len : (r.1 :: r.2).length ≤ 40
theorem rows_lay : ∀ rs : List Row, (∀ r ∈ rs, RowFit r) → PyData.canLayAll0 (rs.map fun r => tD (r.1 :: r.2)) = true
  | [], _ => rfl
  | r :: rs, h => by
    have q : PyData.canLay0 (tD (r.1 :: r.2)) = true := strs_lay _ (h r List.mem_cons_self).ok
    show (PyData.canLay0 (tD (r.1 :: r.2)) && PyData.canLayAll0 (rs.map fun r => tD (r.1 :: r.2))) = true
    rw [q, rows_lay rs fun y hy => h y (List.mem_cons_of_mem _ hy)]
    rfl
theorem rows_short : ∀ rs : List Row, PyData.intsShortAll 13 (rs.map fun r => tD (r.1 :: r.2)) = true
  | [] => rfl
  | r :: rs => by
    have q : PyData.intsShort 13 (tD (r.1 :: r.2)) = true := PyData.intsShortAll_strs 13 (r.1 :: r.2)
    show (PyData.intsShort 13 (tD (r.1 :: r.2)) && PyData.intsShortAll 13 (rs.map fun r => tD (r.1 :: r.2))) = true
    rw [q, rows_short rs]
    rfl
theorem rows_weight : ∀ rs : List Row, (∀ r ∈ rs, RowFit r) → PyData.weightAll (rs.map fun r => tD (r.1 :: r.2)) ≤ 361 * rs.length
  | [], _ => Nat.le_refl _
  | r :: rs, h => by
    have R := h r List.mem_cons_self
    have w := strs_weight (r.1 :: r.2) R.h8
    have l := R.len
    have ih := rows_weight rs fun y hy => h y (List.mem_cons_of_mem _ hy)
    show PyData.weightAll ((r.1 :: r.2).map PyData.str) + 1 + PyData.weightAll (rs.map fun r => tD (r.1 :: r.2)) ≤ 361 * (rs.length + 1)
    omega
theorem rowsD_show (rs : List Row) : (rowsD rs).showable = true := rows_show rs
theorem rowsD_nodict (rs : List Row) : (rowsD rs).hasDict = false := rows_nodict rs
theorem rowsD_depth (rs : List Row) : (rowsD rs).depth ≤ 2 := by
  have := rows_depth rs
  show PyData.depthAll (rs.map fun r => tD (r.1 :: r.2)) + 1 ≤ 2
  omega
theorem rowsD_fits {rs : List Row} (h : ∀ r ∈ rs, RowFit r) (hl : rs.length ≤ 64) : (rowsD rs).shown.length ≤ sizeLine := by
  refine PyData.shown_fits_of_layable0 (B := 13) (by decide) (by decide) ?_ (rows_short rs)
  have w := rows_weight rs h
  have d := rowsD_depth rs
  have q : PyData.weight (rowsD rs) = PyData.weightAll (rs.map fun r => tD (r.1 :: r.2)) := rfl
  show (PyData.canLayAll0 (rs.map fun r => tD (r.1 :: r.2)) && decide (PyData.depth (rowsD rs) ≤ 64) && decide (PyData.weight (rowsD rs) ≤ 2 ^ 20)) = true
  rw [rows_lay rs h, q]
  simp only [Bool.true_and, Bool.and_eq_true, decide_eq_true_eq]
  omega
theorem vw_ok {x : Str} (h : VW x) : sOk x = true ∧ x.length ≤ 8 := by
  have l := h.le
  refine ⟨?_, l⟩
  have q := h.low
  unfold sOk
  rw [Array.all_eq_true]
  intro i hi
  have := q x.cps[i] (by
    show x.cps[i] ∈ x.cps.toList
    exact Array.getElem_mem_toList hi)
  simp only [decide_eq_true_eq]
  omega
theorem Good.fit {rs : List Row} (g : Good rs) (h30 : rs.length ≤ 30) : ∀ r ∈ rs, RowFit r := by
  intro r hr
  obtain ⟨i, hi⟩ := List.getElem?_of_mem hr
  have R := g i r hi
  have il : i < rs.length := (List.getElem?_eq_some_iff.mp hi).1
  have vw : ∀ y ∈ r.1 :: r.2, VW y := fun y hy => by
    rcases List.mem_cons.mp hy with rfl | hy
    · exact R.vw
    · exact g.vw_known i y (R.sub y hy)
  refine ⟨fun y hy => (vw_ok (vw y hy)).1, fun y hy => (vw_ok (vw y hy)).2, ?_⟩
  have := R.nd.length_le_of_subset R.sub
  rw [knownAt_len (Nat.le_of_lt il)] at this
  rw [List.length_cons]
  omega
theorem RowsAt.left {H : Hp} {ts1 ts2 : List Addr} {rs1 rs2 : List Row} (h : RowsAt H (ts1 ++ ts2) (rs1 ++ rs2)) (e : ts1.length = rs1.length) : RowsAt H ts1 rs1 := by
  refine ⟨e, fun i t r a b => ?_⟩
  have i1 := (List.getElem?_eq_some_iff.mp a).1
  have i2 := (List.getElem?_eq_some_iff.mp b).1
  exact h.2 i t r (by rw [List.getElem?_append_left i1]; exact a) (by rw [List.getElem?_append_left i2]; exact b)
theorem refs_ne_pen {ts : List Addr} {c : Addr} {a l : Int} : HO.lst (ts.map V.ref) ≠ penO c a l := by
  unfold penO
  intro e
  injection e with e
  match ts, e with
  | [], e => simp at e
  | [_], e => simp at e
  | _ :: _ :: _, e => simp at e
theorem Pen.refs_ne {H : Hp} {p c q : Addr} {ns : List Int} {n : Nat} {ts : List Addr} (h : Pen H p c ns n) (hq : H q = some (.lst (ts.map V.ref))) : q ≠ p := fun e => by
  obtain ⟨a, l, g, _⟩ := h.pen
  rw [e, g] at hq
  exact refs_ne_pen (Option.some.inj hq).symm
theorem tD_eqv (x : Str) : PyData.eqv (tD [x]) (tD [x]) = true := by
  show ((x == x) && true) = true
  simp
theorem tD_shaped (xs : List Str) (h : ∀ x ∈ xs, sOk x = true) : SeqAt.shaped (tD xs) = true := by
  show (PyData.canLayAll0 (xs.map PyData.str) && decide (PyData.depthAll (xs.map PyData.str) + 1 ≤ 64)) = true
  rw [strs_lay xs h, strs_depth]
  rfl
theorem Tab.mp {p : Addr} {f : List Str → HO} {H H' : Hp} {kvs : List (Key × V)} {t : Tb} (h : Tab f H kvs t) (k : Keep p H H') (n : ∀ us, H p ≠ some (f us)) : Tab f H' kvs t := h.mono fun a us e => k a _ e fun q => n us (q ▸ e)
theorem any_filter {α : Type} (p : α → Bool) : ∀ l : List α, (!decide (l.filter p = [])) = l.any p
  | [] => rfl
  | x :: l => by
    rw [List.filter_cons, List.any_cons]
    cases h : p x with
    | true => simp
    | false => simpa using any_filter p l
theorem op_neDK {X : Cx} {K' : PySem.W.Frag} (hK : X.K = K') (hu : X.A.units + 64 < cLine) : OpR X (compareOp .NotEq) (rNeD K') := by
  subst hK
  exact op_neD hu
theorem call_reprBl {X : Cx} : CallR X (.builtin "repr") (fun xs H Q => ∃ b, xs = [V.bl b] ∧ Q (.str (if b then "True" else "False")) H) := by
  intro pins s σ H xs us Q I r h
  obtain ⟨b, rfl, q⟩ := h
  obtain ⟨u, rfl, ru⟩ := r.one
  obtain rfl : u = Value.bool b := ru
  exact PySem.P.repr_of_bool ⟨.str _, H, I.tok _, ⟨_, rfl⟩, q⟩
theorem ClsW.kp {C p c b : Addr} {ns : List Int} {n : Nat} {H H' : Hp} {rs : List Row} (h : ClsW C H b rs) (k : Keep p H H') (P : Pen H p c ns n) : ClsW C H' b rs := by
  obtain ⟨a, l, g, _⟩ := P.pen
  obtain ⟨dx, r, m, d, kvs, ts, h1, h2, h3, h4, h5, h6⟩ := h
  have nt : ∀ (q : Addr) (xs : List V), H q = some (.tup xs) → q ≠ p := fun q xs e z => by
    rw [z, g] at e
    cases e
  refine ⟨dx, r, m, d, kvs, ts, k _ _ h1 fun e => ?_, k _ _ h2 fun e => ?_, h3.mono fun a us e => k a _ e fun q => ?_, k _ _ h4 (nt _ _ h4), k _ _ h5 (nt _ _ h5), h6.mono fun b r e => k b _ e (nt _ _ e)⟩
  · rw [e, g] at h1
    cases h1
  · rw [e, g] at h2
    cases h2
  · rw [q, g] at e
    unfold penO fD at e
    cases e
theorem pe_fldK {X : Cx} {K' : PySem.W.Frag} {e : Expr} {f : Str} {pos : Pos} {ta : TE} (hK : X.K = K') (he : PE X e ta) (hb : attributeBase e f X.env (eval e X.env) = eval e X.env) : PE X (.Attribute e f pos) (tFld K' ta f) := by
  subst hK
  exact pe_fld he hb
theorem ClsW.same {C p : Addr} {H H' : Hp} {rs : List Row} (h : ClsW C H p rs) (s : Same H H') : ClsW C H' p rs := by
  obtain ⟨dx, r, n, l, kvs, ts, h1, h2, h3, h4, h5, h6⟩ := h
  exact ⟨dx, r, n, l, kvs, ts, s _ _ h1, s _ _ h2, h3.mono fun a us e => s a _ e, s _ _ h4, s _ _ h5, h6.mono fun b r e => s b _ e⟩
theorem strs_eqv : ∀ xs ys : List Str, PyData.eqvAll (xs.map PyData.str) (ys.map PyData.str) = decide (xs = ys)
  | [], [] => rfl
  | [], _ :: _ => rfl
  | _ :: _, [] => rfl
  | x :: xs, y :: ys => by
    show ((x == y) && PyData.eqvAll (xs.map PyData.str) (ys.map PyData.str)) = decide (x :: xs = y :: ys)
    rw [strs_eqv xs ys, Bool.eq_iff_iff]
    simp
theorem rows_eqv : ∀ rs qs : List Row, PyData.eqvAll (rs.map fun r => tD (r.1 :: r.2)) (qs.map fun r => tD (r.1 :: r.2)) = decide (rs = qs)
  | [], [] => rfl
  | [], _ :: _ => rfl
  | _ :: _, [] => rfl
  | r :: rs, q :: qs => by
    show (PyData.eqvAll ((r.1 :: r.2).map PyData.str) ((q.1 :: q.2).map PyData.str) && PyData.eqvAll (rs.map fun r => tD (r.1 :: r.2)) (qs.map fun r => tD (r.1 :: r.2))) = decide (r :: rs = q :: qs)
    rw [strs_eqv, rows_eqv rs qs, Bool.eq_iff_iff]
    obtain ⟨a, as⟩ := r
    obtain ⟨b, bs⟩ := q
    simp
theorem rowsD_eqv (rs qs : List Row) : PyData.eqv (rowsD rs) (rowsD qs) = decide (rs = qs) := rows_eqv rs qs
theorem rowsD_shaped {rs : List Row} (h : ∀ r ∈ rs, RowFit r) : SeqAt.shaped (rowsD rs) = true := by
  have d := rowsD_depth rs
  show (PyData.canLayAll0 (rs.map fun r => tD (r.1 :: r.2)) && decide (PyData.depth (rowsD rs) ≤ 64)) = true
  rw [rows_lay rs h]
  simp only [Bool.true_and, decide_eq_true_eq]
  omega
end K2
end
section
set_option Elab.async false
set_option maxRecDepth 100000
set_option linter.all false
namespace K2
open PySem L2
abbrev sMeets : Stmt := inClass (top 24) 10
abbrev nMeets : List Str := ["self", "kind", "names", "one", "other"]
def meet (tb : Tb) (ks ns : List Str) : Bool := ((ks.map fun k => ns.map fun n => decide (n ∈ look tb k)).flatten).any id
def spMeets (C : Addr) (L : Bool) : Sp := fun vs H Q _ => ∃ (p kt nt : Addr) (ks ns : List Str) (tb : Tb), vs = [.ref p, .ref kt, .ref nt] ∧ ClsAt C H p tb ∧ H kt = some (.tup (ks.map V.str)) ∧ H nt = some (if L then .lst (ns.map V.str) else .tup (ns.map V.str)) ∧
  (∀ x ∈ ks, x ∈ keys tb) ∧ ks.length ≤ 40 ∧ ns.length ≤ 40 ∧ ∀ H', Same H H' → Q (.bl (meet tb ks ns)) H'
section
variable {P : Program} {w : World} {K : PySem.W.Frag} {mg : Str → Option Value} {base : Heap}
theorem any_it {J : It} {n : Nat} {G : Hp → Prop} {Y : Nat → Hp → V → Hp → Prop} (w : Walk J n G Y) {B : (Hp → Prop) → V → Hp → Prop} {H0 : Hp} {Qd : Hp → Prop} (Pv : Nat → Hp → Prop) (h0 : Pv 0 H0) (hG : ∀ i H, i ≤ n → Pv i H → G H)
    (hs : ∀ i x H H', i < n → Pv i H → Y i H x H' → B (Pv (i + 1)) x H') (hd : ∀ H, Pv n H → Qd H) :
    ∃ W : Nat → Nat → Hp → Prop, (∃ m, W 0 m H0) ∧ ∀ i m H, W i m H → (J.stop i H ∧ Qd H) ∨ (J.go i H ∧ ∃ Nx : Hp → Prop, (∀ H', Nx H' → ∃ m', m' < m ∧ W (i + 1) m' H') ∧ ∀ x H', J.yld i H x H' → B Nx x H') := by
  refine ⟨fun i m H => m = n - i ∧ i ≤ n ∧ Pv i H, ⟨n, rfl, Nat.zero_le _, h0⟩, ?_⟩
  rintro i m H ⟨rfl, hi, p⟩
  by_cases lt : i < n
  · exact .inr ⟨w.goes i H lt (hG i H hi p), Pv (i + 1), fun H' p' => ⟨n - (i + 1), by omega, rfl, lt, p'⟩, fun x H' y => hs i x H H' lt p (w.yields i H x H' lt (hG i H hi p) y)⟩
  · obtain rfl : i = n := by omega
    exact .inl ⟨w.stops H (hG _ H hi p), hd H p⟩
theorem scMeets : FnScope nMeets ["self", "kind", "names"] (defScope sMeets) := ⟨rfl, rfl, rfl, by decide +kernel, rfl, by decide +kernel, by decide +kernel⟩
theorem pi_listK {X : Cx} {K' : PySem.W.Frag} {tg l : Expr} {tl : TE} (hK : X.K = K') (hl : PE X l tl) : PI X tg l (iList K' tl) := by
  subst hK
  exact pi_list hl
theorem meets_flat (tb : Tb) (ns : List Str) (k : Str) (ks : List Str) : ((ks ++ [k]).map fun k => ns.map fun n => decide (n ∈ look tb k)).flatten = (ks.map fun k => ns.map fun n => decide (n ∈ look tb k)).flatten ++ ns.map fun n => decide (n ∈ look tb k) := by
  rw [List.map_append, List.flatten_append]
  simp
theorem flat_len (tb : Tb) (ns : List Str) : ∀ ks : List Str, ((ks.map fun k => ns.map fun n => decide (n ∈ look tb k)).flatten).length = ks.length * ns.length
  | [] => by simp
  | k :: ks => by
    rw [List.map_cons, List.flatten_cons, List.length_append, flat_len tb ns ks, List.length_map, List.length_cons, Nat.add_mul, Nat.one_mul]
    omega
theorem ok_meets {f C fW : Addr} {fd fdW : FuncData} (L : Bool) (F : Fun K "meets" "Classes.meets" sMeets f fd) (X : Txt K mg C) (T : Bi mg) (tAny : mg "any" = none)
    (mW : Meth K C "within" fW) (GW : FnOk P w K mg base CX0 1 fW fdW ["self", "one", "other"] (spWithin C)) (bW : Binds K fdW ["self", "one", "other"] []) : FnOk P w K mg base CX0 3 f fd ["self", "kind", "names"] (spMeets C L) := by
  refine F.ok scMeets (fun vs H Q E h => ?_) (fun cdv A outer s H vs Q E hr h => ?_)
  · obtain ⟨p, kt, nt, ks, ns, tb, rfl, _⟩ := h
    rfl
  · obtain ⟨p, kt, nt, ks, ns, tb, rfl, cl, hkt, hnt, hk, k4, n4, k⟩ := h
    have hr1 : Room 1 _ := hr.mono (by decide)
    have hu := hu_of hr
    obtain ⟨J, G, wi1, hG, W, hwi, hPI⟩ : ∃ (J : It) (G : Hp → Prop) (wi1 : TI), (∀ H', Same H H' → G H') ∧ Walk J ns.length G (YAt (ns.map V.str)) ∧ (∀ (σ : L2.St) (H' : Hp) (R : It → Hp → Prop), σ[2]? = some (some (V.ref nt)) → Same H H' → R J H' → wi1 σ H' R) ∧
        (∀ (tg1 : Expr) (X' : Cx), X'.K = K → ∀ e, PE X' e (tVar 2) → PI X' tg1 e wi1) := by
      cases L with
      | true =>
        refine ⟨Itl K nt, fun H' => SqL K H' nt (ns.map V.str), iList K (tVar 2), fun H' s => SqL.of (s nt _ hnt), ?_, fun σ H' R e s r => ⟨_, e, nt, rfl, ⟨_, SqL.of (s nt _ hnt)⟩, r⟩, fun tg1 X' hK e he => pi_listK hK he⟩
        have := walk_list (K := K) (a := nt) (xs := ns.map V.str)
        rwa [List.length_map] at this
      | false =>
        refine ⟨Itt K nt, fun H' => SqT K H' nt (ns.map V.str), iTup K (tVar 2), fun H' s => SqT.of (s nt _ hnt), ?_, fun σ H' R e s r => ⟨_, e, nt, rfl, ⟨_, SqT.of (s nt _ hnt)⟩, r⟩, fun tg1 X' hK e he => pi_tupK hK he⟩
        have := walk_tup (K := K) (a := nt) (xs := ns.map V.str)
        rwa [List.length_map] at this
    refine ⟨_, pss_one (ps_ret (pe_callB (cr_any rfl) (by rfl) tAny (by decide +kernel) (pa_cons
      (pe_lc2 (own := [("one", 3), ("other", 4)]) (vs1 := [4]) (g := gName 3) (g1 := gName 4) (tt := tYes) (tt1 := tYes) rfl scMeets.nd (pi_tup (pv 1)) (blkOk_by (N := nMeets) (sc := defScope sMeets) (by decide +kernel)) (by decide +kernel)
        (fun _ _ _ _ _ => pg_name (i := 3) scMeets.nd rfl (Or.inl rfl)) (fun _ _ _ _ _ => pts_nil) (fun _ _ _ _ _ => hPI _ _ rfl _ (pv 2)) (fun _ _ _ _ _ => pg_name (i := 4) scMeets.nd rfl (Or.inl rfl)) (fun _ _ _ _ _ => pts_nil)
        (fun _ _ _ _ _ => pe_meth (pv 0) X.cl mW GW hr1 bW .nil pass0 (pa_cons (pv 3) (pa_cons (pv 4) pa_nil)))) pa_nil))), ?_⟩
    refine ⟨_, rfl, kt, rfl, ⟨_, SqT.of hkt⟩, fun D hD => ?_⟩
    have hsz : ks.length * ns.length ≤ 1600 := Nat.mul_le_mul k4 n4
    refine any_it (walk_tup (K := K) (a := kt) (xs := ks.map V.str)) (fun i Hc => Hc D = some (.lst ((((ks.take i).map fun k => ns.map fun n => decide (n ∈ look tb k)).flatten).map V.bl)) ∧ Same H Hc) ?_ ?_ ?_ ?_
    · exact ⟨upd_same, (Same.refl H).put hD⟩
    · rintro i Hc _ ⟨_, sm⟩
      exact SqT.of (sm kt _ hkt)
    · rintro i y Hc _ hi ⟨h1, sm⟩ ⟨rfl, hy⟩
      rw [List.length_map] at hi
      have hki : ks[i]? = some ks[i] := List.getElem?_eq_getElem hi
      rw [List.getElem?_map, hki] at hy
      have hkk := hk ks[i] (List.getElem_mem hi)
      have et : ks.take (i + 1) = ks.take i ++ [ks[i]] := by rw [List.take_add_one, hki]; rfl
      generalize ks[i] = q at hki hy hkk et
      cases hy
      refine ⟨rfl, hwi _ _ _ rfl sm ?_⟩
      have fl0 := flat_len tb ns (ks.take i)
      have fl1 : (ks.take i).length * ns.length + ns.length ≤ 1640 := by
        have : (ks.take i).length * ns.length ≤ ks.length * ns.length := Nat.mul_le_mul_right _ (by rw [List.length_take]; omega)
        omega
      generalize hpre : ((ks.take i).map fun k => ns.map fun n => decide (n ∈ look tb k)).flatten = pre at h1 fl0
      refine any_it W (fun j Hd => Hd D = some (.lst ((pre ++ (ns.take j).map fun n => decide (n ∈ look tb q)).map V.bl)) ∧ Same H Hd) ?_ ?_ ?_ ?_
      · refine ⟨?_, sm⟩
        simpa using h1
      · rintro j Hd _ ⟨_, sd⟩
        exact hG Hd sd
      · rintro j y Hd _ hj ⟨g1, sd⟩ ⟨rfl, hy⟩
        have hnj : ns[j]? = some ns[j] := List.getElem?_eq_getElem hj
        rw [List.getElem?_map, hnj] at hy
        have en : ns.take (j + 1) = ns.take j ++ [ns[j]] := by rw [List.take_add_one, hnj]; rfl
        generalize ns[j] = z at hnj hy en
        cases hy
        obtain ⟨dx, fs, hp1, hp2⟩ := (cl.same sd).ins
        refine ⟨rfl, _, rfl, p, dx, fs, rfl, hp1, hp2 "within" (by decide +kernel) (by decide +kernel) (by decide +kernel), _, rfl, _, rfl, p, q, z, tb, rfl, cl.same sd, hkk, _, g1, ?_, ?_, sd.put hD⟩
        · rw [List.length_map, List.length_append, List.length_map, List.length_take]; show _ < 16777216; omega
        · rw [upd_same, en, List.map_append, List.map_append, List.map_append, List.map_append, List.append_assoc]
          rfl
      · rintro Hd ⟨g1, sd⟩
        rw [List.take_length] at g1
        refine ⟨?_, sd⟩
        rw [et, meets_flat, hpre]
        exact g1
    · rintro Hc ⟨h1, sm⟩
      rw [List.length_map, List.take_length] at h1
      exact ⟨D, _, rfl, SqL.of h1, k Hc sm⟩
end
end K2
end
section
set_option Elab.async false
set_option maxRecDepth 100000
set_option linter.all false
namespace K2
open PySem L2 PySem.Spec PyProof.Rows
abbrev sKO : Stmt := inClass (top 24) 11
abbrev nKO : List Str := ["self", "name", "among", "around", "other"]
def spKindR (C : Addr) : Sp := fun vs H Q E => ∃ ws rest, vs = ws ++ rest ∧ ws.length = 1 ∧ rest.length ≤ sizeLine ∧ ∀ p, H p = none → spKind C (ws ++ [V.ref p]) (upd H p (.tup rest)) Q E
theorem kindR {C p : Addr} {xs : List Str} {tb : Tb} {H : Hp} {Q : VK} {E : XK} (cl : ClsAt C H p tb) (hk : ∀ x ∈ xs, x ∈ keys tb) (h40 : xs.length ≤ 40)
    (k : ∀ (ys : List Str) (r : Addr) (H' : Hp), Least tb xs ys → H r = none → H' r = some (.tup (ys.map V.str)) → Same H H' → Q (.ref r) H') : spKindR C (V.ref p :: xs.map V.str) H Q E := by
  refine ⟨[V.ref p], _, rfl, rfl, by rw [List.length_map]; show _ ≤ 16777216; omega, fun q hq => ?_⟩
  have s1 : Same H (upd H q (.tup (xs.map V.str))) := (Same.refl H).put hq
  refine ⟨p, q, xs, tb, rfl, cl.same s1, upd_same, hk, h40, fun ys r H' L hr h2 s2 => k ys r H' L ?_ h2 (s1.trans s2)⟩
  exact s1.free hr
/-- o.m(*e), e a list or a tuple -/
def tMethSL (K : PySem.W.Frag) (C : Addr) (m : Str) (g : Addr) (sp : Sp) (E : XK) (to te : TE) : TE := fun σ H Q => to σ H fun x H1 => ∃ a dx fs, x = .ref a ∧ H1 a = some (.ins C dx fs) ∧ fs.lookup m = none ∧
  ∀ q, H1 q = none → te σ (upd H1 q (.met g a)) fun y H2 => ∃ b zs, y = .ref b ∧ (SqT K H2 b zs ∨ SqL K H2 b zs) ∧ H2 q = some (.met g a) ∧ sp (.ref a :: zs) H2 Q E
section
variable {X : Cx} {CX : CXT} {k : Nat} {g C : Addr} {sp : Sp} {E : XK} {m : Str} {o e : Expr} {p apos pos : Pos} {to te : TE}
theorem pe_methSL (ho : PE X o to) (c : Cls X.K C) (b : BMeth X.K C m g) (F : FnR X.prog X.w X.K X.mg X.base CX k g sp) (hr : Room k X.A) (hx : Passes CX X E) (he : PE X e te)
    (hb : attributeBase o m X.env (eval o X.env) = eval o X.env := by rfl) : PE X (.Call (.Attribute o m apos) [.Starred e p] [] pos) (tMethSL X.K C m g sp E to te) := by
  constructor
  intro pins s σ H Q I h
  refine starcall_of hb (thn (ho.run pins s σ H _ I h) fun u s1 ⟨x, H1, I1, rx, a, dx, fs, ex, ea, l, q⟩ => ?_)
  cases ex
  obtain rfl : u = Value.ref a := rx
  refine getbound_ok I1 ea c b l fun q1 s2 n1 I2 => PySem.W.ks_call (P := PySem.W.MethP X.K q1 g (.ref a)) rfl (PySem.W.keeps_M b.fi) (PySem.W.ks_lone ?_)
  refine thn (he.run pins s2 σ _ _ I2 (q q1 n1)) fun v s3 ⟨y, H2, I3, ry, t, zs, ey, ht, hm, hsp⟩ => ?_
  cases ey
  obtain rfl : v = Value.ref t := ry
  refine StX.star_any I3 ht fun us s4 I4 rv => ⟨met_P I4 hm, wpAny_call ?_⟩
  exact PySem.W.method_call (met_P I4 hm).1 (run_fnR (us := Value.ref a :: us) (vs := V.ref a :: zs) F hr hx I4 (.cons rfl rv) hsp)
end
/-- name of these classes, seen by among -/
def spKO (C : Addr) : Sp := fun vs H Q _ => ∃ (p q : Addr) (x : Str) (tb : Tb) (rs : List Row), vs = [.ref p, .str x, .ref q] ∧ ClsAt C H p tb ∧ ClsW C H q rs ∧ x ∈ keys tb ∧ (keys (ups rs)).length ≤ 40 ∧
  ∀ (ys : List Str) (r : Addr) (H' : Hp), Least (ups rs) ((keys (ups rs)).filter fun y => decide (y ∈ look tb x)) ys → H r = none → H' r = some (.tup (ys.map V.str)) → Same H H' → Q (.ref r) H'
section
variable {P : Program} {w : World} {K : PySem.W.Frag} {mg : Str → Option Value} {base : Heap}
theorem scKO : FnScope nKO ["self", "name", "among"] (defScope sKO) := ⟨rfl, rfl, rfl, by decide +kernel, rfl, by decide +kernel, by decide +kernel⟩
theorem ok_ko {f C fW fK : Addr} {fd fdW : FuncData} (F : Fun K "kind_of" "Classes.kind_of" sKO f fd) (Y : Txt K mg C)
    (mW : Meth K C "within" fW) (GW : FnOk P w K mg base CX0 1 fW fdW ["self", "one", "other"] (spWithin C)) (bW : Binds K fdW ["self", "one", "other"] []) (mK : BMeth K C "kind" fK) (GK : FnR P w K mg base CX0 3 fK (spKindR C)) :
    FnOk P w K mg base CX0 4 f fd ["self", "name", "among"] (spKO C) := by
  refine F.ok scKO (fun vs H Q E h => ?_) (fun cdv A outer s H vs Q E hr h => ?_)
  · obtain ⟨p, q, x, tb, rs, rfl, _⟩ := h
    rfl
  · obtain ⟨p, q, x, tb, rs, rfl, cl, cw, hx, h40, k⟩ := h
    have hr3 : Room 3 _ := hr
    have hr1 : Room 1 _ := hr.mono (by decide)
    have hu := hu_of hr
    refine ⟨_, (pss_cons (ps_setLc (i := 3) (own := [("other", 4)]) (g := gName 4)  rfl scKO.nd rfl rfl (sw_true rfl rfl rfl (by decide +kernel)) (pi_tup (pe_fld (pv 2) rfl)) (blkOk_by (N := nKO) (sc := defScope sKO) (by decide +kernel)) (fun _ _ _ _ _ => pg_name (i := 4) scKO.nd rfl (Or.inl rfl)) (fun _ _ _ _ _ => pts_one (pt_val (pe_meth (pv 0) Y.cl mW GW hr1 bW .nil pass0 (pa_cons (pv 1) (pa_cons (pv 4) pa_nil))))) (fun _ _ _ _ _ => pv 4))
      (pss_one (ps_ret (pe_methSL (pv 2) Y.cl mK GK hr3 pass0 (pv 3))))), ?_⟩
    have cw0 := cw
    obtain ⟨dx, r, n, l, kvs, ts, h1, h2, h3, h4, h5, h6⟩ := cw
    refine ⟨_, rfl, q, C, dx, _, _, rfl, h1, Y.cl, Y.nN, flds_names _ _ _, n, rfl, ⟨_, SqT.of h4⟩, fun D hD => ?_⟩
    obtain ⟨dxp, fsp, hp1, hp2⟩ := cl.ins
    have hp2 := hp2 "within" (by decide +kernel) (by decide +kernel) (by decide +kernel)
    clear h3 h5 h6
    generalize hnm : keys (ups rs) = nm at h4 h40 k
    refine lc_tup (K := K) (a := n) (xs := nm.map V.str) (fun i Hc => Hc D = some (.lst (((nm.take i).filter fun y => decide (y ∈ look tb x)).map V.str)) ∧ Same H Hc) ?_ ?_ ?_ ?_
    · exact ⟨upd_same, (Same.refl H).put hD⟩
    · rintro i Hc _ ⟨_, sm⟩
      exact SqT.of (sm n _ h4)
    · rintro i y Hc hy ⟨g1, sm⟩
      have hil : i < nm.length := by
        have := (List.getElem?_eq_some_iff.mp hy).1
        rwa [List.length_map] at this
      have hzi : nm[i]? = some nm[i] := List.getElem?_eq_getElem hil
      rw [List.getElem?_map, hzi] at hy
      have et : nm.take (i + 1) = nm.take i ++ [nm[i]] := by rw [List.take_add_one, hzi]; rfl
      generalize nm[i] = z at hzi hy et
      cases hy
      have fl : ((nm.take i).filter fun y => decide (y ∈ look tb x)).length ≤ nm.length := Nat.le_trans (List.length_filter_le _ _) (by rw [List.length_take]; omega)
      refine ⟨rfl, _, rfl, p, dxp, fsp, rfl, sm p _ hp1, hp2, _, rfl, _, rfl, p, x, z, tb, rfl, cl.same sm, hx, _, rfl, ite2 (fun h => ⟨_, rfl, _, g1, ?_, ?_, sm.put hD⟩) (fun h => ⟨?_, sm⟩)⟩
      · rw [List.length_map]; show _ < 16777216; omega
      · rw [upd_same, et, List.filter_append, List.filter_cons, if_pos h, List.map_append]
        rfl
      · rw [et, List.filter_append, List.filter_cons, if_neg h, List.filter_nil, List.append_nil]
        exact g1
    · rintro Hc ⟨g1, sm⟩
      rw [List.length_map, List.take_length] at g1
      have fl : (nm.filter fun y => decide (y ∈ look tb x)).length ≤ nm.length := List.length_filter_le _ _
      refine ⟨_, rfl, q, dx, _, rfl, sm q _ h1, flds_no r n l (by decide +kernel) (by decide +kernel) (by decide +kernel), fun mq hmq => ⟨_, rfl, D, _, rfl, .inr (SqL.of (by rw [upd_ne (ne_of_none g1 hmq)]; exact g1)), upd_same, ?_⟩⟩
      have s1 : Same H (upd Hc mq (.met fK q)) := sm.put (sm.free hmq)
      refine kindR ((cw0.same s1).at) (fun y hy => ?_) (by omega) fun ys r' H' L hr' h2' s2 => k ys r' H' L (s1.free hr') h2' (s1.trans s2)
      rw [hnm]
      exact (List.mem_filter.mp hy).1
end
end K2
end
section
set_option Elab.async false
set_option maxRecDepth 100000
set_option linter.all false
namespace K2
open PySem L2 PySem.Spec PyProof.Rows
theorem pick_str {xs : List Str} {j : Nat} {v : V} (h : (xs.map V.str)[j]? = some v) : ∃ x ∈ xs, v = .str x := by
  obtain ⟨x, hx, e⟩ := List.mem_map.mp (List.mem_of_getElem? h)
  exact ⟨x, hx, e.symm⟩
def hits (tb : Tb) (ns : List Str) (k : Str) : List Str := ns.filter fun n => decide (n ∈ look tb k)
theorem flat_any (tb : Tb) (ns : List Str) : ∀ ks : List Str, meet tb ks ns = ks.any fun k => !decide (hits tb ns k = [])
  | [] => rfl
  | k :: ks => by
    have ih := flat_any tb ns ks
    unfold meet at ih ⊢
    rw [List.map_cons, List.flatten_cons, List.any_append, ih, List.any_cons]
    congr 1
    unfold hits
    rw [any_filter, List.any_map]
    rfl
theorem due_meet (tb : Tb) (ks ns : List Str) : (!decide (ks.filter (fun k => !decide (hits tb ns k = [])) = [])) = meet tb ks ns := by rw [any_filter, flat_any]
theorem meet_rev (tb : Tb) (ks ns : List Str) : meet tb ks ns.reverse = meet tb ks ns := by
  rw [flat_any, flat_any]
  congr 1
  funext k
  unfold hits
  rw [any_filter, any_filter, List.any_reverse]
theorem ClsAt.kp {C p c b : Addr} {ns : List Int} {n : Nat} {H H' : Hp} {tb : Tb} (h : ClsAt C H b tb) (k : Keep p H H') (P : Pen H p c ns n) : ClsAt C H' b tb := by
  obtain ⟨a, l, g, _⟩ := P.pen
  obtain ⟨dx, r, m, d, kvs, h1, h2, h3⟩ := h
  refine ⟨dx, r, m, d, kvs, k _ _ h1 fun e => ?_, k _ _ h2 fun e => ?_, h3.mono fun a us e => k a _ e fun q => ?_⟩
  · rw [e, g] at h1
    cases h1
  · rw [e, g] at h2
    cases h2
  · rw [q, g] at e
    unfold penO fD at e
    cases e
/-- the kind of a kind is itself -/
theorem Least.self {tb : Tb} {xs ys : List Str} (h : Least tb xs ys) : Least tb ys ys :=
  ⟨h.nd, h.so, fun y => ⟨fun hy => ⟨hy, fun z hz => ((h.me y).mp hy).2 z ((h.me z).mp hz).1⟩, fun q => q.1⟩⟩
theorem last_of {tb : Tb} (T : TOk tb) : ∀ (m : Nat) (xs : List Str), (∀ x ∈ xs, x ∈ keys tb) → xs ≠ [] → (∀ x ∈ xs, (keys tb).idxOf x < m) → ∃ y ∈ xs, ∀ z ∈ xs, z ≠ y → y ∉ look tb z
  | 0, xs, _, ne, hm => by
    obtain ⟨x, hx⟩ := List.exists_mem_of_ne_nil xs ne
    exact absurd (hm x hx) (Nat.not_lt_zero _)
  | m + 1, xs, hk, ne, hm => by
    by_cases h : ∃ y ∈ xs, (keys tb).idxOf y = m
    · obtain ⟨y, hy, ey⟩ := h
      refine ⟨y, hy, fun z hz ne hyz => ?_⟩
      obtain ⟨a, b, e⟩ := look_mem (hk z hz)
      obtain ⟨L, hn⟩ := T a z _ b e
      have hya : y ∈ keys a := (L.sub y hyz).resolve_left ne.symm
      have kz := hm z hz
      have ek : keys tb = keys a ++ z :: keys b := by
        have := congrArg keys e
        rwa [keys_mid] at this
      have h1 : (keys tb).idxOf y < (keys a).length := by
        rw [ek, List.idxOf_append, if_pos hya]
        exact List.idxOf_lt_length_of_mem hya
      have h2 : (keys a).length ≤ (keys tb).idxOf z := by
        rw [ek, List.idxOf_append, if_neg hn]
        omega
      omega
    · refine last_of T m xs hk ne fun x hx => ?_
      have h1 := hm x hx
      have h2 : (keys tb).idxOf x ≠ m := fun e => h ⟨x, hx, e⟩
      omega
theorem Least.ne {tb : Tb} {xs ys : List Str} (h : Least tb xs ys) (T : TOk tb) (hk : ∀ x ∈ xs, x ∈ keys tb) (ne : xs ≠ []) : ys ≠ [] := by
  obtain ⟨y, hy, q⟩ := last_of T (keys tb).length xs hk ne fun x hx => List.idxOf_lt_length_of_mem (hk x hx)
  exact List.ne_nil_of_mem ((h.me y).mpr ⟨hy, q⟩)
theorem Least.le {tb : Tb} {xs ys : List Str} (h : Least tb xs ys) : ys.length ≤ xs.length := h.nd.length_le_of_subset fun y hy => ((h.me y).mp hy).1
end K2
end
section
set_option autoImplicit true
set_option linter.all false
namespace K2
open PySem L2
theorem mem_mergeU {m us : List Str} {u : Str} : u ∈ mergeU m us ↔ u ∈ m ∨ u ∈ us := by
  unfold mergeU
  rw [List.mem_append, List.mem_filter]
  constructor
  · rintro (h | ⟨h, _⟩)
    · exact .inl h
    · exact .inr h
  · rintro (h | h)
    · exact .inl h
    · by_cases q : u ∈ m
      · exact .inl q
      · exact .inr ⟨h, by simpa using q⟩
theorem mem_lineL {t : Tb} {u : Str} : ∀ (bs m : List Str), u ∈ lineL t m bs ↔ u ∈ m ∨ ∃ b ∈ bs, u ∈ look t b
  | [], m => by simp [lineL]
  | b :: bs, m => by
    show u ∈ lineL t (mergeU m (look t b)) bs ↔ _
    rw [mem_lineL bs, mem_mergeU]
    constructor
    · rintro ((h | h) | ⟨c, hc, h⟩)
      · exact .inl h
      · exact .inr ⟨b, List.mem_cons_self, h⟩
      · exact .inr ⟨c, List.mem_cons_of_mem _ hc, h⟩
    · rintro (h | ⟨c, hc, h⟩)
      · exact .inl (.inl h)
      · rcases List.mem_cons.mp hc with rfl | hc
        · exact .inl (.inr h)
        · exact .inr ⟨c, hc, h⟩
theorem look_app {t e : Tb} {x : Str} (h : x ∈ keys t) : look (t ++ e) x = look t x := by
  induction t with
  | nil => simp [keys] at h
  | cons p t ih =>
    obtain ⟨k, us⟩ := p
    show (if k = x then us else look (t ++ e) x) = (if k = x then us else look t x)
    by_cases q : k = x
    · rw [if_pos q, if_pos q]
    · rw [if_neg q, if_neg q]
      refine ih ?_
      unfold keys at h ⊢
      rcases List.mem_cons.mp h with r | r
      · exact absurd r.symm q
      · exact r
theorem look_new {t : Tb} {x : Str} {us : List Str} (h : x ∉ keys t) : look (t ++ [(x, us)]) x = us := by
  induction t with
  | nil => simp [look]
  | cons p t ih =>
    obtain ⟨k, vs⟩ := p
    have q : ¬ k = x := fun e => h (by rw [e]; simp [keys])
    show (if k = x then vs else look (t ++ [(x, us)]) x) = us
    rw [if_neg q]
    exact ih fun m => h (by unfold keys at m ⊢; exact List.mem_cons_of_mem _ m)
def Tra (t : Tb) : Prop := ∀ x ∈ keys t, ∀ y ∈ look t x, ∀ z ∈ look t y, z ∈ look t x
theorem tra_t0 : Tra t0 := by
  intro x hx y hy z hz
  have e1 : look t0 sErr = [sErr] := by decide +kernel
  have e2 : look t0 sVac = [sVac, sErr] := by decide +kernel
  have hx : x = sErr ∨ x = sVac := by simpa [keys, t0] using hx
  rcases hx with rfl | rfl
  · rw [e1] at hy
    have : y = sErr := by simpa using hy
    subst this
    rwa [e1] at hz ⊢
  · rw [e2] at hy
    have : y = sVac ∨ y = sErr := by simpa using hy
    rcases this with rfl | rfl
    · exact hz
    · rw [e1] at hz
      have : z = sErr := by simpa using hz
      subst this
      rw [e2]
      simp
theorem tra_step {t : Tb} (T : TOk t) (h : Tra t) {r : Row} (R : RowOk (keys t) r) : Tra (stepT t r) := by
  have new : look (stepT t r) r.1 = lineOf t r := look_new R.new
  have old : ∀ y ∈ keys t, look (stepT t r) y = look t y := fun y hy => look_app hy
  intro x hx y hy z hz
  have hx : x ∈ keys t ∨ x = r.1 := by simpa [keys, stepT] using hx
  rcases hx with hx | rfl
  · rw [old x hx] at hy ⊢
    rw [old y ((T.line hx).2.2.2 y hy)] at hz
    exact h x hx y hy z hz
  · rw [new] at hy ⊢
    unfold lineOf at hy ⊢
    rcases (mem_lineL r.2 [r.1]).mp hy with q | ⟨b, hb, q⟩
    · have : y = r.1 := by simpa using q
      subst this
      rw [new] at hz
      exact hz
    · have hbk := R.sub b hb
      rw [old y ((T.line hbk).2.2.2 y q)] at hz
      exact (mem_lineL r.2 [r.1]).mpr (.inr ⟨b, hb, h b hbk y q z hz⟩)
theorem tra_ups {rs : List Row} (g : Good rs) : ∀ i, i ≤ rs.length → Tra (ups (rs.take i))
  | 0, _ => by simpa [ups] using tra_t0
  | i + 1, h => by
    have hi : rs[i]? = some rs[i] := List.getElem?_eq_getElem (by omega)
    rw [ups_succ hi]
    refine tra_step (tok_ups g i (by omega)) (tra_ups g i (by omega)) ?_
    rw [keys_ups_take]
    exact g i _ hi
theorem foldl_pre : ∀ (rs : List Row) (t : Tb), ∃ e, rs.foldl stepT t = t ++ e
  | [], t => ⟨[], by simp⟩
  | r :: rs, t => by
    obtain ⟨e, he⟩ := foldl_pre rs (stepT t r)
    refine ⟨[(r.1, lineOf t r)] ++ e, ?_⟩
    show rs.foldl stepT (stepT t r) = _
    rw [he]
    unfold stepT
    rw [List.append_assoc]
theorem ups_pre (rs qs : List Row) : ∃ e, ups (rs ++ qs) = ups rs ++ e := by
  unfold ups
  rw [List.foldl_append]
  exact foldl_pre qs _
theorem good_take {rs : List Row} (g : Good rs) (m : Nat) : Good (rs.take m) := by
  intro i r h
  have hi : i < (rs.take m).length := (List.getElem?_eq_some_iff.mp h).1
  rw [List.length_take] at hi
  rw [List.getElem?_take, if_pos (by omega)] at h
  have := g i r h
  unfold knownAt at this ⊢
  rwa [List.take_take, Nat.min_eq_left (by omega)]
/-! ### what one more name sees -/
/-- the classes of t0 around x -/
def around (t0 t : Tb) (x : Str) : List Str := (keys t0).filter fun y => decide (y ∈ look t x)
structure Two (t0 t : Tb) : Prop where
  T0 : TOk t0
  T : TOk t
  tr : Tra t
  pre : ∃ e, t = t0 ++ e
theorem Two.old {t0 t : Tb} (W : Two t0 t) {y : Str} (h : y ∈ keys t0) : look t y = look t0 y := by
  obtain ⟨e, rfl⟩ := W.pre
  exact look_app h
theorem Two.sub {t0 t : Tb} (W : Two t0 t) {y : Str} (h : y ∈ keys t0) : y ∈ keys t := by
  obtain ⟨e, rfl⟩ := W.pre
  unfold keys at h ⊢
  rw [List.map_append]
  exact List.mem_append_left _ h
theorem mem_around {t0 t : Tb} {x y : Str} : y ∈ around t0 t x ↔ y ∈ keys t0 ∧ y ∈ look t x := by
  unfold around
  rw [List.mem_filter, decide_eq_true_iff]
/-- the law's least ones are those of kind -/
theorem Two.least {t0 t : Tb} (W : Two t0 t) {x : Str} {xs ys zs : List Str} (h : Least t0 (around t0 t x) ys) (e : ∀ y, y ∈ xs ↔ y ∈ around t0 t x) (h2 : Least t xs zs) : zs = ys := by
  refine sorted_one h2.nd h.nd h2.so h.so fun y => ?_
  rw [h2.me, h.me, e y]
  refine and_congr_right fun _ => ?_
  constructor
  · intro q z hz ne
    rw [← W.old (mem_around.mp hz).1]
    exact q z ((e z).mpr hz) ne
  · intro q z hz ne
    have hz := (e z).mp hz
    rw [W.old (mem_around.mp hz).1]
    exact q z hz ne
/-- below each of the classes around there is a least one -/
theorem Two.below {t0 t : Tb} (W : Two t0 t) {x n : Str} {ys : List Str} (hx : x ∈ keys t) (h : Least t0 (around t0 t x) ys) (hn : n ∈ around t0 t x) : ∃ k ∈ ys, n ∈ look t0 k := by
  obtain ⟨hn1, hn2⟩ := mem_around.mp hn
  have hS : n ∈ (around t0 t x).filter fun y => decide (n ∈ look t0 y) := List.mem_filter.mpr ⟨hn, decide_eq_true (W.T0.line hn1).2.1⟩
  obtain ⟨y, hy, q⟩ := last_of W.T0 (keys t0).length ((around t0 t x).filter fun y => decide (n ∈ look t0 y)) (fun z hz => (mem_around.mp (List.mem_filter.mp hz).1).1) (List.ne_nil_of_mem hS)
    (fun z hz => List.idxOf_lt_length_of_mem (mem_around.mp (List.mem_filter.mp hz).1).1)
  obtain ⟨hy1, hy2⟩ := List.mem_filter.mp hy
  have hny : n ∈ look t0 y := of_decide_eq_true hy2
  refine ⟨y, (h.me y).mpr ⟨hy1, fun z hz ne hyz => q z (List.mem_filter.mpr ⟨hz, decide_eq_true ?_⟩) ne hyz⟩, hny⟩
  have hzk := (mem_around.mp hz).1
  have hyk := (mem_around.mp hy1).1
  rw [← W.old hzk]
  rw [← W.old hzk] at hyz
  rw [← W.old hyk] at hny
  exact W.tr z (W.sub hzk) y hyz n hny
theorem meet_iff (tb : Tb) (ks ns : List Str) : meet tb ks ns = true ↔ ∃ k ∈ ks, ∃ n ∈ ns, n ∈ look tb k := by
  rw [flat_any, List.any_eq_true]
  refine exists_congr fun k => and_congr_right fun _ => ?_
  unfold hits
  rw [any_filter, List.any_eq_true]
  refine exists_congr fun n => and_congr_right fun _ => ?_
  exact decide_eq_true_iff
/-- what takes an error of the class x takes one of its kind -/
theorem Two.meets {t0 t : Tb} (W : Two t0 t) {x : Str} {ys ns : List Str} (hx : x ∈ keys t) (h : Least t0 (around t0 t x) ys) (hns : ∀ n ∈ ns, n ∈ keys t0) : meet t0 ys ns = !decide (ns.filter (fun n => decide (n ∈ look t x)) = []) := by
  rw [any_filter, Bool.eq_iff_iff, meet_iff, List.any_eq_true]
  constructor
  · rintro ⟨k, hk, n, hn, q⟩
    obtain ⟨k1, k2⟩ := mem_around.mp ((h.me k).mp hk).1
    rw [← W.old k1] at q
    exact ⟨n, hn, decide_eq_true (W.tr x hx k k2 n q)⟩
  · rintro ⟨n, hn, q⟩
    have q := of_decide_eq_true q
    obtain ⟨k, hk, q2⟩ := W.below hx h (mem_around.mpr ⟨hns n hn, q⟩)
    exact ⟨k, hk, n, hn, q2⟩
/-- the kind of a first class is itself -/
theorem Two.own {t0 t : Tb} (W : Two t0 t) {x : Str} {ys : List Str} (hx : x ∈ keys t0) (h : Least t0 (around t0 t x) ys) : ys = [x] := by
  have self := (W.T0.line hx).2.1
  refine sorted_one h.nd (by simp) h.so rfl fun y => ?_
  rw [h.me, List.mem_singleton]
  constructor
  · rintro ⟨hy, q⟩
    obtain ⟨_, y2⟩ := mem_around.mp hy
    rw [W.old hx] at y2
    by_cases e : x = y
    · exact e.symm
    · exact absurd y2 (q x (mem_around.mpr ⟨hx, by rw [W.old hx]; exact self⟩) e)
  · rintro rfl
    refine ⟨mem_around.mpr ⟨hx, by rw [W.old hx]; exact self⟩, fun z hz ne => ?_⟩
    obtain ⟨z1, z2⟩ := mem_around.mp hz
    rw [W.old hx] at z2
    exact W.T0.back hx z2 ne
theorem two_of {rs qs : List Row} (g : Good (rs ++ qs)) : Two (ups rs) (ups (rs ++ qs)) := by
  have g0 : Good rs := by
    have := good_take g rs.length
    rwa [List.take_left'] at this
    rfl
  have a := tok_ups g0 rs.length (Nat.le_refl _)
  have b := tok_ups g (rs ++ qs).length (Nat.le_refl _)
  have c := tra_ups g (rs ++ qs).length (Nat.le_refl _)
  rw [List.take_length] at a b c
  exact ⟨a, b, c, ups_pre rs qs⟩
end K2
end
section
set_option Elab.async false
set_option maxRecDepth 100000
set_option linter.all false
namespace K2
open PySem L2 LamX PySem.Spec PyProof.Rows
def rowOf : List Str → Row
  | [] => (sErr, [])
  | x :: r => (x, r)
theorem rowOf_all {xs : List Str} (h : xs ≠ []) : (rowOf xs).1 :: (rowOf xs).2 = xs := by
  cases xs with
  | nil => exact absurd rfl h
  | cons x r => rfl
theorem PAt.rows {H : Hp} {bs : List Addr} {ys : List (List Str)} (h : PAt H bs ys) (ne : ∀ x ∈ ys, x ≠ []) : RowsAt H bs (ys.map rowOf) := by
  refine ⟨by rw [List.length_map]; exact h.len, fun i t r ht hr => ?_⟩
  obtain ⟨xs, hx, e⟩ := h.get ht
  rw [List.getElem?_map, hx] at hr
  obtain rfl : rowOf xs = r := Option.some.inj hr
  unfold rowO
  rw [rowOf_all (ne xs (List.mem_of_getElem? hx))]
  exact e
theorem fit_of {xs : List Str} (ne : xs ≠ []) (ok : ∀ y ∈ xs, VW y) (l : xs.length ≤ 40) : RowFit (rowOf xs) := by
  refine ⟨?_, ?_, ?_⟩ <;> rw [rowOf_all ne]
  · exact fun y hy => (vw_ok (ok y hy)).1
  · exact fun y hy => (vw_ok (ok y hy)).2
  · exact l
theorem ClsW.extN {C p : Addr} {H H' : Hp} {rs : List Row} (h : ClsW C H p rs) (s : ExtN H H') : ClsW C H' p rs := by
  obtain ⟨dx, r, n, l, kvs, ts, h1, h2, h3, h4, h5, h6⟩ := h
  exact ⟨dx, r, n, l, kvs, ts, s _ _ h1 (fun ps z => by cases z), s _ _ h2 (fun ps z => by cases z), h3.mono fun a us e => s a _ e (fun ps z => by unfold fD at z; cases z), s _ _ h4 (fun ps z => by cases z), s _ _ h5 (fun ps z => by cases z), h6.mono fun b r e => s b _ e (fun ps z => by unfold rowO at z; cases z)⟩
theorem Pen.extN {H H' : Hp} {p c : Addr} {ns : List Int} {n : Nat} (h : Pen H p c ns n) (s : ExtN H H') : Pen H' p c ns n := by
  obtain ⟨a, l, g, r⟩ := h.pen
  exact ⟨⟨a, l, s _ _ g (fun ps z => by unfold penO at z; cases z), r⟩, s _ _ h.cells (fun ps z => by cases z), h.small⟩
theorem Tabs.kp {T : List (Addr × Str)} {H H' : Hp} {p c : Addr} {ns : List Int} {n : Nat} (t : Tabs T H) (P : Pen H p c ns n) (k : Keep p H H') : Tabs T H' := fun q hq => by
  obtain ⟨ps, h1, h2, h3⟩ := t q hq
  obtain ⟨a, l, g, _⟩ := P.pen
  refine ⟨ps, k _ _ h1 (fun e => ?_), h2, fun pos cv hc => ?_⟩
  · rw [e, g] at h1
    unfold penO at h1
    cases h1
  · obtain ⟨c0, e1, e2⟩ := h3 pos cv hc
    refine ⟨c0, e1, k _ _ e2 fun e => ?_⟩
    rw [e, g] at e2
    unfold penO CodeO at e2
    cases e2
theorem Tabs.same {T : List (Addr × Str)} {H H' : Hp} (t : Tabs T H) (s : Same H H') : Tabs T H' := t.ext s
theorem masked_sublist (S : List Str) (m : Nat) : (masked S m).Sublist S := by
  have e : (List.range S.length).filterMap (fun k => S[k]?) = S := by
    apply List.ext_getElem?
    intro i
    have : ∀ (l : List Nat), (∀ k ∈ l, k < S.length) → l.filterMap (fun k => S[k]?) = l.map fun k => S.getD k sErr := fun l hl => by
      induction l with
      | nil => rfl
      | cons k l ih =>
        have hk := hl k List.mem_cons_self
        rw [List.filterMap_cons, List.getElem?_eq_getElem hk, List.map_cons, ih fun j hj => hl j (List.mem_cons_of_mem _ hj)]
        simp [List.getD, List.getElem?_eq_getElem hk]
    rw [this _ fun k hk => List.mem_range.mp hk, List.getElem?_map]
    by_cases hi : i < S.length
    · rw [List.getElem?_range hi, List.getElem?_eq_getElem hi]
      simp [List.getD, List.getElem?_eq_getElem hi]
    · rw [List.getElem?_eq_none (by simpa using hi), List.getElem?_eq_none (by omega)]
      rfl
  have := (List.filter_sublist (p := fun k => decide (m / 2 ^ k % 2 = 1)) (l := List.range S.length)).filterMap fun k => S[k]?
  rwa [e] at this
theorem indep_iff {tb : Tb} {xs : List Str} : indep tb xs = true ↔ ∀ one ∈ xs, ∀ two ∈ xs, two ≠ one → one ∉ look tb two := by
  unfold indep
  rw [List.all_eq_true]
  refine forall_congr' fun one => forall_congr' fun _ => ?_
  rw [decide_eq_true_iff, List.filter_eq_nil_iff]
  simp
theorem least_self {tb : Tb} {S : List Str} {m : Nat} (nd : S.Nodup) (so : sortedS S = true) (h : indep tb (masked S m) = true) : Least tb (masked S m) (masked S m) :=
  ⟨nd.sublist (masked_sublist S m), sorted_sub so (masked_sublist S m), fun y => ⟨fun hy => ⟨hy, fun z hz ne => indep_iff.mp h y hy z hz ne⟩, fun hy => hy.1⟩⟩
theorem Least.uniq {tb : Tb} {xs ys ys' : List Str} (h : Least tb xs ys) (h' : Least tb xs ys') : ys = ys' :=
  sorted_one h.nd h'.nd h.so h'.so fun y => by rw [h.me, h'.me]
/-! the answer of the law for too many classes -/
def mD : PyData := .tuple [.str "MANY", .str "classes", .int 6]
def lD : PyData := .list [mD, mD]
theorem lD_show : lD.showable = true := rfl
theorem lD_nodict : lD.hasDict = false := rfl
theorem lD_depth : lD.depth ≤ 8 := by decide +kernel
theorem lD_fits : lD.shown.length ≤ sizeLine := by decide +kernel
theorem mD_dp {K : PySem.W.Frag} {H : Hp} {t : Addr} (h : H t = some (.tup [.str "MANY", .str "classes", .int 6])) : Dp K H (.ref t) mD := .tup (SqT.of h) (.cons (.str _) (.cons (.str _) (.cons (.int _) .nil)))
theorem lD_dp {K : PySem.W.Frag} {H : Hp} {l t u : Addr} (h : H l = some (.lst [.ref t, .ref u])) (ht : H t = some (.tup [.str "MANY", .str "classes", .int 6])) (hu : H u = some (.tup [.str "MANY", .str "classes", .int 6])) : Dp K H (.ref l) lD := .lst (SqL.of h) (.cons (mD_dp ht) (.cons (mD_dp hu) .nil))
end K2
end
section
set_option autoImplicit true
set_option linter.all false
namespace K2
open PySem L2 PySem.Spec PyProof.Rows
theorem sub_masked (S : List Str) (y : List Str) (h : y.Sublist S) : ∃ m, m < 2 ^ S.length ∧ y = masked S m := by
  have rev : ∀ (R : List Str) (y : List Str), y.Sublist R.reverse → ∃ m, m < 2 ^ R.reverse.length ∧ y = masked R.reverse m := fun R => by
    induction R with
    | nil =>
      intro y h
      refine ⟨0, by decide, ?_⟩
      rw [masked_zero]
      simpa using h
    | cons x R ih =>
      intro y h
      rw [List.reverse_cons] at h ⊢
      obtain ⟨a, b, rfl, ha, hb⟩ := List.sublist_append_iff.mp h
      obtain ⟨m, hm, rfl⟩ := ih a ha
      have hb' : b = [] ∨ b = [x] := by
        cases hb with
        | cons _ h => exact .inl (by simpa using h)
        | cons_cons _ h =>
          refine .inr ?_
          have := List.sublist_nil.mp h
          rw [this]
      rw [List.length_append, List.length_singleton, Nat.pow_succ]
      rcases hb' with rfl | rfl
      · exact ⟨m, by omega, by rw [List.append_nil, masked_snoc_low _ _ _ hm]⟩
      · exact ⟨m + 2 ^ R.reverse.length, by omega, (masked_snoc_high _ _ _ hm).symm⟩
  have := rev S.reverse y (by rwa [List.reverse_reverse])
  rwa [List.reverse_reverse] at this
theorem allM_nodup (S : List Str) (nd : S.Nodup) : (allM S).Nodup := by
  have rev : ∀ R : List Str, R.reverse.Nodup → (allM R.reverse).Nodup := fun R => by
    induction R with
    | nil => intro _; unfold allM; simp
    | cons x R ih =>
      intro nd
      rw [List.reverse_cons] at nd ⊢
      have nd' := List.nodup_append.mp nd
      have hx : x ∉ R.reverse := fun h => nd'.2.2 x h x (List.mem_singleton.mpr rfl) rfl
      rw [allM_snoc]
      refine List.nodup_append.mpr ⟨ih nd'.1, ?_, ?_⟩
      · have := ih nd'.1
        unfold List.Nodup at this ⊢
        rw [List.pairwise_map]
        exact this.imp fun h e => h (List.append_cancel_right e)
      · intro a ha b hb e
        subst e
        obtain ⟨p, _, e⟩ := List.mem_map.mp hb
        obtain ⟨m, _, e2⟩ := List.mem_map.mp ha
        apply hx
        refine masked_sub R.reverse m x ?_
        rw [e2, ← e]
        simp
  have := rev S.reverse (by rwa [List.reverse_reverse])
  rwa [List.reverse_reverse] at this
/-- ys are the kinds -/
structure KindsOf (tb : Tb) (ys : List (List Str)) : Prop where
  mem : ∀ y, y ∈ ys ↔ y ≠ [] ∧ (∀ x ∈ y, x ∈ keys tb) ∧ Least tb y y
  nd : ys.Nodup
theorem kinds_of {tb : Tb} {S : List Str} {ys : List (List Str)} (nk : (keys tb).Nodup) (p : S.Perm (keys tb)) (so : sortedS S = true) (h : ys.Perm (growK tb S).tail) : KindsOf tb ys := by
  have nS : S.Nodup := p.nodup_iff.mpr nk
  have gt := grow_tail tb S nS
  refine ⟨fun y => ?_, ?_⟩
  · rw [h.mem_iff, gt, List.tail_cons, List.mem_filter, List.mem_map]
    constructor
    · rintro ⟨⟨m, hm, rfl⟩, hi⟩
      have hm := List.mem_range.mp hm
      refine ⟨masked_ne S (m + 1) (by omega) (by omega), fun x hx => p.mem_iff.mp (masked_sub S _ x hx), least_self nS so hi⟩
    · rintro ⟨ne, hk, L⟩
      have e : y = S.filter fun z => decide (z ∈ y) := sorted_one L.nd (nS.filter _) L.so (sorted_sub so List.filter_sublist) fun z => by
        rw [List.mem_filter, decide_eq_true_iff]
        exact ⟨fun hz => ⟨p.mem_iff.mpr (hk z hz), hz⟩, fun hz => hz.2⟩
      have sub : y.Sublist S := by
        rw [e]
        exact List.filter_sublist
      obtain ⟨m, hm, rfl⟩ := sub_masked S y sub
      have m0 : m ≠ 0 := fun e => ne (by rw [e, masked_zero])
      refine ⟨⟨m - 1, List.mem_range.mpr (by omega), by rw [show m - 1 + 1 = m by omega]⟩, indep_iff.mpr fun one h1 two h2 n => ((L.me one).mp h1).2 two h2 n⟩
  · rw [h.nodup_iff, grow_all tb S nS]
    exact ((allM_nodup S nS).filter _).sublist (List.tail_sublist _)
/-! what the kinds meet -/
def metD (tb : Tb) (y : List Str) : List Bool := (keys tb).map fun n => meet tb y [n]
theorem meet_one {tb : Tb} {y : List Str} {n : Str} : meet tb y [n] = true ↔ ∃ k ∈ y, n ∈ look tb k := by
  rw [meet_iff]
  simp
theorem met_sub {tb : Tb} (T : TOk tb) (tr : Tra tb) {y z : List Str} (hy : ∀ x ∈ y, x ∈ keys tb) (hz : ∀ x ∈ z, x ∈ keys tb) (Ly : Least tb y y) (h : ∀ n ∈ keys tb, meet tb y [n] = meet tb z [n]) : ∀ a ∈ y, a ∈ z := by
  intro a ha
  have hak := hy a ha
  have h1 := h a hak
  rw [meet_one.mpr ⟨a, ha, (T.line hak).2.1⟩] at h1
  obtain ⟨k, hk, q⟩ := meet_one.mp h1.symm
  have hkk := hz k hk
  have h2 := h k hkk
  rw [meet_one.mpr ⟨k, hk, (T.line hkk).2.1⟩] at h2
  obtain ⟨b, hb, q2⟩ := meet_one.mp h2
  have hab : a ∈ look tb b := tr b (hy b hb) k q2 a q
  have e : b = a := by
    by_cases e : b = a
    · exact e
    · exact absurd hab (((Ly.me a).mp ha).2 b hb e)
  subst e
  by_cases e : k = b
  · exact e ▸ hk
  · exact absurd q (T.back hak q2 e)
theorem met_inj {tb : Tb} (T : TOk tb) (tr : Tra tb) {y z : List Str} (hy : ∀ x ∈ y, x ∈ keys tb) (hz : ∀ x ∈ z, x ∈ keys tb) (Ly : Least tb y y) (Lz : Least tb z z) (h : metD tb y = metD tb z) : y = z := by
  have h' : ∀ n ∈ keys tb, meet tb y [n] = meet tb z [n] := List.map_inj_left.mp h
  exact sorted_one Ly.nd Lz.nd Ly.so Lz.so fun a => ⟨met_sub T tr hy hz Ly h' a, met_sub T tr hz hy Lz (fun n hn => (h' n hn).symm) a⟩
theorem KindsOf.one {tb : Tb} (T : TOk tb) {ys : List (List Str)} (k : KindsOf tb ys) {x : Str} (hx : x ∈ keys tb) : [x] ∈ ys := by
  refine (k.mem _).mpr ⟨by simp, fun y hy => by rw [List.mem_singleton.mp hy]; exact hx, by simp, rfl, fun y => ⟨fun hy => ⟨hy, fun z hz ne => ?_⟩, fun hy => hy.1⟩⟩
  rw [List.mem_singleton.mp hz, List.mem_singleton.mp hy] at ne
  exact absurd rfl ne
/-! a class that is made later -/
theorem two_snoc {rs qs : List Row} {x : Str} {bs : List Str} (g : Good (rs ++ qs ++ [(x, bs)])) {y : Str} : y ∈ look (ups (rs ++ qs ++ [(x, bs)])) x ↔ y = x ∨ ∃ b ∈ bs, y ∈ look (ups (rs ++ qs)) b := by
  have hi : (rs ++ qs ++ [(x, bs)])[(rs ++ qs).length]? = some (x, bs) := by simp
  have R := g _ _ hi
  have new : x ∉ keys (ups (rs ++ qs)) := by
    have := R.new
    unfold knownAt at this
    rw [List.take_left' rfl] at this
    rw [keys_ups]
    exact this
  have e : look (ups (rs ++ qs ++ [(x, bs)])) x = lineOf (ups (rs ++ qs)) (x, bs) := by
    rw [ups_snoc]
    exact look_new new
  rw [e]
  unfold lineOf
  rw [mem_lineL, List.mem_singleton]
/-- the kind of a class with the bases of a kind, and with some that are above it -/
theorem later_kind {rs qs : List Row} {x : Str} {bs so ys : List Str} (g : Good (rs ++ (qs ++ [(x, bs)]))) (hso : ∀ b ∈ so, b ∈ keys (ups rs)) (L : Least (ups rs) so so)
    (hb : ∀ b, b ∈ bs → b ∈ so ∨ ∃ one ∈ so, b ∈ look (ups rs) one) (hs : ∀ b ∈ so, b ∈ bs) (hx : x ∉ keys (ups rs))
    (h : Least (ups rs) (around (ups rs) (ups (rs ++ (qs ++ [(x, bs)]))) x) ys) : ys = so := by
  have W := two_of g
  have g' : Good (rs ++ qs ++ [(x, bs)]) := by rwa [List.append_assoc]
  have g1 : Good (rs ++ qs) := by
    have := good_take g' (rs ++ qs).length
    rwa [List.take_left' rfl] at this
  have W1 := two_of g1
  have bk : ∀ b ∈ bs, b ∈ keys (ups rs) := fun b hbb => by
    rcases hb b hbb with q | ⟨one, h1, q⟩
    · exact hso b q
    · exact (W.T0.line (hso one h1)).2.2.2 b q
  have ar : ∀ y, y ∈ around (ups rs) (ups (rs ++ (qs ++ [(x, bs)]))) x ↔ ∃ one ∈ so, y ∈ look (ups rs) one := fun y => by
    rw [mem_around, ← List.append_assoc, two_snoc g']
    constructor
    · rintro ⟨hy, rfl | ⟨b, hbb, q⟩⟩
      · exact absurd hy hx
      · rw [W1.old (bk b hbb)] at q
        rcases hb b hbb with r | ⟨one, h1, r⟩
        · exact ⟨b, r, q⟩
        · refine ⟨one, h1, ?_⟩
          have := W.tr one (W.sub (hso one h1))
          rw [W.old (hso one h1)] at this
          refine this b r y ?_
          rw [W.old (bk b hbb)]
          exact q
    · rintro ⟨one, h1, q⟩
      refine ⟨(W.T0.line (hso one h1)).2.2.2 y q, .inr ⟨one, hs one h1, ?_⟩⟩
      rw [W1.old (hso one h1)]
      exact q
  have tr0 : ∀ a ∈ keys (ups rs), ∀ b ∈ look (ups rs) a, ∀ c ∈ look (ups rs) b, c ∈ look (ups rs) a := fun a ha b hb c hc => by
    have := W.tr a (W.sub ha)
    rw [W.old ha] at this
    refine this b hb c ?_
    rw [W.old ((W.T0.line ha).2.2.2 b hb)]
    exact hc
  refine sorted_one h.nd L.nd h.so L.so fun y => ?_
  rw [h.me, ar]
  constructor
  · rintro ⟨⟨one, h1, q⟩, r⟩
    by_cases e : one = y
    · exact e ▸ h1
    · exact absurd q (r one ((ar one).mpr ⟨one, h1, (W.T0.line (hso one h1)).2.1⟩) e)
  · intro hy
    have hyk := hso y hy
    refine ⟨⟨y, hy, (W.T0.line hyk).2.1⟩, fun z hz ne hyz => ?_⟩
    obtain ⟨one, h1, q⟩ := (ar z).mp hz
    have hyo := tr0 one (hso one h1) z q y hyz
    have e : one = y := by
      by_cases e : one = y
      · exact e
      · exact absurd hyo (((L.me y).mp hy).2 one h1 e)
    subst e
    exact W.T0.back (hso one h1) q ne hyz
/-- any other later class has one of the kinds -/
theorem later_in {rs qs : List Row} {x : Str} {ys : List Str} {yss : List (List Str)} (g : Good (rs ++ qs)) (k : KindsOf (ups rs) yss) (hx : x ∈ keys (ups (rs ++ qs))) (h : Least (ups rs) (around (ups rs) (ups (rs ++ qs)) x) ys) : ys ∈ yss := by
  have W := two_of g
  have sub : ∀ y ∈ around (ups rs) (ups (rs ++ qs)) x, y ∈ keys (ups rs) := fun y hy => (mem_around.mp hy).1
  have ek : sErr ∈ keys (ups rs) := by
    rw [keys_ups]
    exact List.mem_append_left _ (by unfold base0; simp)
  have ne : around (ups rs) (ups (rs ++ qs)) x ≠ [] := List.ne_nil_of_mem (mem_around.mpr ⟨ek, (W.T.line hx).2.2.1⟩)
  exact (k.mem ys).mpr ⟨h.ne W.T0 sub ne, fun y hy => sub y ((h.me y).mp hy).1, h.self⟩
/-! texts of lists of bools -/
theorem codes_app (x y : Str) : codes (x ++ y) = codes x ++ codes y := by
  show (x.cps ++ y.cps).toList = _
  rw [Array.toList_append]
  rfl
theorem codes_from : ∀ (ts : List Str) (k : Nat) (acc : Str), codes (textFrom (k + 1) acc ts) = codes acc ++ (ts.map fun t => [44, 32] ++ codes t).flatten
  | [], k, acc => by simp [textFrom]
  | t :: ts, k, acc => by
    show codes (textFrom (k + 1 + 1) (acc ++ (if k + 1 > 0 then ", " else "" : String) ++ t) ts) = _
    rw [codes_from ts (k + 1), codes_app, codes_app, if_pos (Nat.succ_pos k), List.map_cons, List.flatten_cons, List.append_assoc, List.append_assoc, List.append_assoc]
    rfl
theorem codes_list (t : Str) (ts : List Str) : codes (listText (t :: ts)) = [91] ++ codes t ++ ((ts.map fun t => [44, 32] ++ codes t).flatten ++ [93]) := by
  show codes (textFrom 1 ("[" ++ (if 0 > 0 then ", " else "" : String) ++ t) ts ++ "]") = _
  rw [codes_app, codes_from, codes_app, codes_app, if_neg (by decide), List.append_assoc]
  rfl
theorem bool_codes {b c : Bool} {x y : List Nat} (h : codes (PyData.shown (.bool b)) ++ x = codes (PyData.shown (.bool c)) ++ y) : b = c ∧ x = y := by
  have et : codes (PyData.shown (.bool true)) = [84, 114, 117, 101] := by decide +kernel
  have ef : codes (PyData.shown (.bool false)) = [70, 97, 108, 115, 101] := by decide +kernel
  cases b <;> cases c
  · exact ⟨rfl, List.append_cancel_left h⟩
  · rw [et, ef] at h
    simp at h
  · rw [et, ef] at h
    simp at h
  · exact ⟨rfl, List.append_cancel_left h⟩
theorem bools_flat : ∀ (bs cs : List Bool), bs.length = cs.length → ((PyData.shownAll (bs.map PyData.bool)).map fun t => [44, 32] ++ codes t).flatten ++ [93] = ((PyData.shownAll (cs.map PyData.bool)).map fun t => [44, 32] ++ codes t).flatten ++ [93] → bs = cs
  | [], [], _, _ => rfl
  | [], _ :: _, h, _ => absurd h (by simp)
  | _ :: _, [], h, _ => absurd h (by simp)
  | b :: bs, c :: cs, hl, h => by
    have h2 : [44, 32] ++ (codes (PyData.shown (.bool b)) ++ (((PyData.shownAll (bs.map PyData.bool)).map fun t => [44, 32] ++ codes t).flatten ++ [93])) = [44, 32] ++ (codes (PyData.shown (.bool c)) ++ (((PyData.shownAll (cs.map PyData.bool)).map fun t => [44, 32] ++ codes t).flatten ++ [93])) := by
      have e : ∀ (b : Bool) (bs : List Bool), ((PyData.shownAll ((b :: bs).map PyData.bool)).map fun t => [44, 32] ++ codes t).flatten ++ [93] = [44, 32] ++ (codes (PyData.shown (.bool b)) ++ (((PyData.shownAll (bs.map PyData.bool)).map fun t => [44, 32] ++ codes t).flatten ++ [93])) := fun b bs => by
        show ([44, 32] ++ codes (PyData.shown (.bool b)) ++ ((PyData.shownAll (bs.map PyData.bool)).map fun t => [44, 32] ++ codes t).flatten) ++ [93] = _
        simp only [List.append_assoc]
      rw [← e, ← e]
      exact h
    obtain ⟨rfl, q⟩ := bool_codes (List.append_cancel_left h2)
    rw [bools_flat bs cs (by simpa using hl) q]
/-- the texts of lists of bools of one length are unlike, as they are -/
theorem bools_inj {bs cs : List Bool} (hl : bs.length = cs.length) (h : (boolsD bs).shown = (boolsD cs).shown) : bs = cs := by
  match bs, cs, hl, h with
  | [], [], _, _ => rfl
  | [], _ :: _, h, _ => exact absurd h (by simp)
  | _ :: _, [], h, _ => exact absurd h (by simp)
  | b :: bs, c :: cs, hl, h =>
    have h1 := congrArg codes h
    have e : ∀ (b : Bool) (bs : List Bool), codes (boolsD (b :: bs)).shown = [91] ++ codes (PyData.shown (.bool b)) ++ ((PyData.shownAll (bs.map PyData.bool)).map fun t => [44, 32] ++ codes t).flatten ++ [93] := fun b bs => by
      have := codes_list (PyData.shown (.bool b)) (PyData.shownAll (bs.map PyData.bool))
      rw [← List.append_assoc] at this
      exact this
    rw [e, e, List.append_assoc, List.append_assoc, List.append_assoc, List.append_assoc] at h1
    obtain ⟨rfl, q⟩ := bool_codes (List.append_cancel_left h1)
    rw [bools_flat bs cs (by simpa using hl) q]
end K2
end
section
set_option Elab.async false
set_option maxRecDepth 100000
set_option linter.all false
namespace K2
open PySem L2 PySem.Spec PyProof.Rows
section
variable {X : Cx} {CX : CXT} {k : Nat} {f C : Addr} {fd : FuncData} {ps : List Str} {sp : Sp} {E : XK}
/-- a def called somewhere below -/
theorem run_at {A : Around} {pins : List (Addr × Obj)} {σ : L2.St} {H : Hp} {s : Shared} {Q : VK} {us : List Value} {vs : List V} (F : FnOk X.prog X.w X.K X.mg X.base CX k f fd ps sp) (hb : Binds X.K fd ps []) (hx : Passes CX X E) (sb : Sub X k A) (I : Inv X pins σ H s) (rv : Vals vs us) (hsp : sp vs H Q E) :
    wpAny (model X.prog X.w) A (call (.ref f) us) (EP X pins σ Q) X.xe s := by
  have e0 : Env0 X.prog X.w X.K X.mg X.base A X.stack s H := by
    have e := I.env0
    exact ⟨by rw [sb.fr]; exact e.frames, e.mod, e.bs, e.bsz, e.funs, e.frf, e.hok, e.bare⟩
  have hl : us.length = ps.length := by rw [← rv.length]; exact F.len _ _ _ _ hsp
  have b2 := hb s us I.kIn (by simpa using hl)
  rw [List.append_nil] at b2
  refine wpAny_call (codeAny_mono (F.run A X.stack s H ⟨us, []⟩ us vs Q E sb.room e0 b2 rv hsp) fun r s' hq => ?_)
  cases r with
  | error e => exact hx pins σ H s e s' I hq
  | ok fl =>
    cases fl with
    | ret w => exact I.after hq
    | next => exact False.elim hq
    | brk => exact False.elim hq
    | cont => exact False.elim hq
/-- len(o) -/
theorem call_lenO (F : FnOk X.prog X.w X.K X.mg X.base CX k f fd ps sp) (hb : Binds X.K fd ps []) (hx : Passes CX X E) (hr : Room (k + 1) X.A) (hs : PySem.W.findIn X.K (.ref C) "__len__" = some (some (.ref f))) (hf : PySem.W.isFn X.K (.ref f) = true) :
    CallR X (.builtin "len") (fun xs H Q => ∃ a dx fs, xs = [.ref a] ∧ H a = some (.ins C dx fs) ∧ sp [.ref a] H (fun v H' => ∃ n : Nat, v = .int n ∧ n < 1000000 ∧ Q (.int n) H') E) := by
  intro pins s σ H xs us Q I r h
  obtain ⟨a, dx, fs, rfl, ha, hsp⟩ := h
  obtain ⟨u, rfl, ru⟩ := r.one
  cases ru
  obtain ⟨mA, J, _⟩ := ins_get I.hok ha
  obtain ⟨od, J, _⟩ := J.look
  obtain ⟨m, hF⟩ := I.fr
  refine PySem.W.len_K hF I.ok.mod.kin J hs hf (wpAny_mono (run_at (vs := [.ref a]) F hb hx (Sub.in1 ⟨hr, rfl⟩) I (.cons rfl .nil) hsp) (fun v s' q => ?_) fun _ _ x => x)
  obtain ⟨x, H', I', rx, n, rfl, hn, q⟩ := q
  obtain ⟨t, rfl⟩ := rx
  exact ⟨⟨by omega, by omega⟩, .int n, H', I'.tok _, ⟨_, rfl⟩, q⟩
/-- x in o -/
theorem op_inO (F : FnOk X.prog X.w X.K X.mg X.base CX k f fd ps sp) (hb : Binds X.K fd ps []) (hx : Passes CX X E) (hr : Room k X.A) (hs : PySem.W.findIn X.K (.ref C) "__contains__" = some (some (.ref f))) (hf : PySem.W.isFn X.K (.ref f) = true) :
    OpR X (compareOp .In) (fun x y H Q => ∃ a dx fs, y = .ref a ∧ H a = some (.ins C dx fs) ∧ sp [.ref a, x] H (fun v H' => ∃ b, v = .bl b ∧ Q (.bl b) H') E) := by
  intro pins s σ H x y v u Q I rx ry h
  obtain ⟨a, dx, fs, rfl, ha, hsp⟩ := h
  cases ry
  obtain ⟨mA, J, _⟩ := ins_get I.hok ha
  obtain ⟨od, J, _⟩ := J.look
  obtain ⟨m, hF⟩ := I.fr
  refine PySem.W.in_K hF I.ok.mod.kin J hs hf (wpAny_mono (run_at (vs := [.ref a, x]) F hb hx ⟨hr, rfl⟩ I (.cons rfl (.cons rx .nil)) hsp) (fun r s' q => ?_) fun _ _ x => x)
  obtain ⟨z, H', I', rz, b, rfl, q⟩ := q
  cases rz
  exact wpAny_truthy_bool ⟨.bl b, H', I', rfl, q⟩
/-- the right side's type, not above the class -/
def RightT (K : PySem.W.Frag) (C : Addr) (H : Hp) (y : V) : Prop := ∃ t, TyX K H y t ∧ PySem.W.notFirst K C t = true
/-- o == y -/
theorem op_eqO (F : FnOk X.prog X.w X.K X.mg X.base CX k f fd ps sp) (hb : Binds X.K fd ps []) (hx : Passes CX X E) (hr : Room k X.A) (hu : X.A.units < cLine) (hs : PySem.W.findIn X.K (.ref C) "__eq__" = some (some (.ref f))) (hf : PySem.W.isFn X.K (.ref f) = true) :
    OpR X (compareOp .Eq) (fun x y H Q => ∃ a dx fs, x = .ref a ∧ H a = some (.ins C dx fs) ∧ RightT X.K C H y ∧ sp [.ref a, y] H (fun v H' => ∃ b, v = .bl b ∧ Q (.bl b) H') E) := by
  intro pins s σ H x y v u Q I rx ry h
  obtain ⟨a, dx, fs, rfl, ha, ⟨t, ty, hn⟩, hsp⟩ := h
  cases rx
  obtain ⟨mA, J, _⟩ := ins_get I.hok ha
  obtain ⟨od, J, _⟩ := J.look
  obtain ⟨m, hF⟩ := I.fr
  obtain ⟨Pz, Z, p, _⟩ := kit_of I ry ty
  show wpAny (model X.prog X.w) X.A (richCompare .Eq (.ref a) u) (EP X pins σ Q) X.xe s
  have lk : PySem.W.Looks (model X.prog X.w) s.heap (typeOf u) t := Z.ty _ _ I.kIn p
  refine PySem.W.cmp_K (op := .Eq) hu hF I.ok.mod.kin J lk hn hs hf (wpAny_mono (run_at (vs := [.ref a, y]) F hb hx ⟨hr, rfl⟩ I (.cons rfl (.cons ry .nil)) hsp) (fun r s' q => ?_) fun _ _ x => x)
  obtain ⟨z, H', I', rz, b, rfl, q⟩ := q
  cases rz
  exact ⟨.bl b, H', I', rfl, q⟩
/-! o != y: by object's own, which asks the class's == -/
theorem bound_ne {M : Model} {A : Around} {Er : Value → Shared → Prop} {s : Shared} {K : PySem.W.Frag} {x C : Addr} {ox : Obj} {od : Option Obj} {args : List Value} {Q : Option Value → Shared → Prop} (Y : K.In s.heap) (J : PySem.W.InstAt s.heap x ox C od)
    (hs : PySem.W.findIn K (.ref C) "__ne__" = some (some (.builtin "object.__ne__"))) (h : wpAny M A (call (.builtin "object.__ne__") (.ref x :: args)) (fun v => Q (some v)) Er s) : wpAny M A (callSpecialIfBound? (.ref x) "__ne__" args) Q Er s := by
  simp only [callSpecialIfBound?, bindSpecialIfBound?]
  refine wpAny_holding (wpAny_bind (wpAny_bind (wpAny_bind (J.type.here ((PySem.W.looks_findIn Y hs).here ?_)))))
  refine wpAny_bind (wpAny_askSetting (wpAny_ite ?_))
  have go : wpAny M A (call (.builtin "object.__ne__") ([.ref x] ++ args) >>= fun v => pure (some v)) Q Er s := wpAny_bind (wpAny_mono h (fun v s' q => wpAny_pure q) fun _ _ q => q)
  split
  · exact wpAny_bind (wpAny_of_eq (F.cmp_object.ne.bind _) (wpAny_pure (by exact go)))
  · exact wpAny_tryCatch (wpAny_bind (wpAny_of_eq (F.cmp_object.ne.bind _) (wpAny_pure (by exact go))))
theorem entry_ne {prog : Program} {w : World} {A : Around} {Er : Value → Shared → Prop} {s : Shared} {K : PySem.W.Frag} {x C f : Addr} {y : Value} {ox : Obj} {od : Option Obj} {Q : Fin → Shared → Prop} (Y : K.In s.heap) (J : PySem.W.InstAt s.heap x ox C od) (hu : A.units < cLine)
    (hs : PySem.W.findIn K (.ref C) "__eq__" = some (some (.ref f))) (hf : PySem.W.isFn K (.ref f) = true)
    (h : wpAny (model prog w) A (call (.ref f) [.ref x, y]) (fun v s' => ∃ b, v = .bool b ∧ Q (.done (.ret (.bool (!b)))) s') Er s) : wpAny (model prog w) A (Builtin.«object.__ne__» ⟨[.ref x, y], []⟩) Q Er s := by
  unfold Builtin.«object.__ne__»
  repeat (first
    | with_reducible refine wpAny_cRoomFor hu ?_
    | (refine wpAny_bind (m := callSpecialIfBound? (.ref x) (Str.ofString "__eq__") [y]) (PySem.W.ifBound_K Y J hs hf (wpAny_mono h (fun r s' hr => by
          obtain ⟨b, rfl, hq⟩ := hr
          repeat (first | exact hq | exact wpAny_pure hq | exact wpAny_truthy_bool hq | (refine wpAny_bind (m := truthy (.bool _)) (wpAny_truthy_bool ?_)) | wp_step)) fun _ _ e => e)))
    | wp_step)
theorem try_ne {prog : Program} {w : World} {A : Around} {Er : Value → Shared → Prop} {s : Shared} {K : PySem.W.Frag} {x C f : Addr} {y : Value} {ox : Obj} {od : Option Obj} {Q : Option Value → Shared → Prop} (Y : K.In s.heap) (J : PySem.W.InstAt s.heap x ox C od) (hu : A.units + 1 < cLine)
    (hn : PySem.W.findIn K (.ref C) "__ne__" = some (some (.builtin "object.__ne__"))) (hm : PySem.W.mroIn K C (.type "object") = some true) (hs : PySem.W.findIn K (.ref C) "__eq__" = some (some (.ref f))) (hf : PySem.W.isFn K (.ref f) = true)
    (h : wpAny (model prog w) A.in1 (call (.ref f) [.ref x, y]) (fun v s' => ∃ b, v = .bool b ∧ Q (some (.bool (!b))) s') Er s) : wpAny (model prog w) A (tryCompare (.ref x) "__ne__" y) Q Er s := by
  unfold tryCompare
  refine wpAny_bind (bound_ne Y J hn (wpAny_call (codeAny_call_builtin F.cmp_object.ne.plain F.cmpEntry_ne (PySem.W.check_slot F.cmpKind_ne F.cmpSplit_ne (J.type.andThen (PySem.W.looks_mroIn Y hm)) (F.cmpArgs_ne _ _)
    (entry_ne (A := A.in1) Y J hu hs hf (wpAny_mono h (fun v s' hv => ?_) fun _ _ e => e))))))
  obtain ⟨b, rfl, hq⟩ := hv
  exact ⟨b, rfl, wpAny_pure hq⟩
theorem op_neO (F : FnOk X.prog X.w X.K X.mg X.base CX k f fd ps sp) (hb : Binds X.K fd ps []) (hx : Passes CX X E) (hr : Room (k + 1) X.A) (hu : X.A.units + 1 < cLine) (hs : PySem.W.findIn X.K (.ref C) "__eq__" = some (some (.ref f))) (hf : PySem.W.isFn X.K (.ref f) = true)
    (hn : PySem.W.findIn X.K (.ref C) "__ne__" = some (some (.builtin "object.__ne__"))) (hm : PySem.W.mroIn X.K C (.type "object") = some true) :
    OpR X (compareOp .NotEq) (fun x y H Q => ∃ a b dx fs dy gs, x = .ref a ∧ y = .ref b ∧ H a = some (.ins C dx fs) ∧ H b = some (.ins C dy gs) ∧ sp [.ref a, .ref b] H (fun v H' => ∃ c, v = .bl c ∧ Q (.bl (!c)) H') E) := by
  intro pins s σ H x y v u Q I rx ry h
  obtain ⟨a, b, dx, fs, dy, gs, rfl, rfl, ha, hb2, hsp⟩ := h
  cases rx
  cases ry
  obtain ⟨mA, J, _⟩ := ins_get I.hok ha
  obtain ⟨od, J, _⟩ := J.look
  obtain ⟨mB, J2, _⟩ := ins_get I.hok hb2
  obtain ⟨od2, J2, _⟩ := J2.look
  have call := run_at (us := [.ref a, .ref b]) (vs := [.ref a, .ref b]) F hb hx (Sub.in1 ⟨hr, rfl⟩) I (.cons rfl (.cons rfl .nil)) hsp
  show wpAny (model X.prog X.w) X.A (richCompare .NotEq (.ref a) (.ref b)) (EP X pins σ Q) X.xe s
  unfold richCompare
  simp only [oneThing_ref]
  refine wpAny_holding (wpAny_bind (wpAny_cRoomFor (Nat.lt_of_succ_lt hu) ?_))
  rw [cmpInfo_NotEq]
  dsimp only
  refine wpAny_bind (J.type.here (wpAny_bind (J2.type.here ?_)))
  rw [show (Value.ref C != Value.ref C) = false from by simp]
  simp only [Bool.false_eq_true, if_false]
  refine wpAny_bind (wpAny_pure ?_)
  simp only [Bool.false_eq_true, if_false]
  refine wpAny_bind (try_ne I.kIn J hu hn hm hs hf (wpAny_mono call (fun r s' q => ?_) fun _ _ x => x))
  obtain ⟨z, H', I', rz, c, rfl, q⟩ := q
  cases rz
  exact ⟨c, rfl, wpAny_pure ⟨.bl (!c), H', I', rfl, q⟩⟩
end
end K2
end
section
set_option Elab.async false
set_option maxRecDepth 100000
set_option linter.all false
namespace K2
open PySem L2 PySem.Spec PyProof.Rows
/-- the staticmethod m of the class at C is the def at g -/
structure SMet (K : PySem.W.Frag) (C : Addr) (mc : Value) (m : Str) (p g : Addr) : Prop where
  at_ : PySem.W.findCls K (.ref C) mc m = some (.get (.builtin "staticmethod.__get__") (.ref p) .none (.ref C))
  rc : ∃ rest, PySem.W.recIn K p "staticmethod" = some (.ref g :: rest)
  kp : PySem.W.keepIn K (.ref g) = true
section
variable {X : Cx} {CX : CXT} {k : Nat} {f g C p : Addr} {mc : Value} {fd : FuncData} {ps ks : List Str} {sp : Sp} {E : XK} {m x : Str} {o e : Expr} {q pos apos nap : Pos} {ta te tk : TE} {tks : TA} {kws : List Keyword}
/-- C.m(), m a staticmethod -/
theorem pe_smeth0 {pl : Sem Bool} (he : PE X o ta) (r : ClX.CRead X.K C mc) (c : SMet X.K C mc m p g) (F : FnOk X.prog X.w X.K X.mg X.base CX k g fd [] sp) (hb : Binds X.K fd [] []) (hr : Room k X.A) (hx : Passes CX X E)
    (ht : eval (.Call (.Attribute o m apos) [] [] pos) X.env = (do
      let ov ← eval o X.env
      standAt apos.atName
      let (f, first) ← holding [ov] (getMethod ov m pl)
      callWith pos f first (backTo pos (starEach [] X.env)) (backToKw pos (keywordEach [] X.env))) := by rfl) : PE X (.Call (.Attribute o m apos) [] [] pos) (fun σ H Q => ta σ H fun z H1 => z = .ref C ∧ sp [] H1 Q E) := by
  constructor
  intro pins s σ H Q I h
  refine PySem.W.methodCall_KW (pl := pl) (thn (he.run pins s σ H _ I h) fun u s1 ⟨z, H1, I1, rz, ez, hs⟩ => ?_) ht
  subst ez
  obtain rfl : u = Value.ref C := rz
  obtain ⟨rest, hp⟩ := c.rc
  refine PySem.W.method_cls I1.kIn r.ga (PySem.W.cls_bind I1.kIn r.rd c.at_ (wpAny_call (PySem.W.sm_get (s := { s1 with toks := s1.toks + 1 }) I1.kIn hp (PySem.W.handed_on rfl ?_))))
  have I2 := I1.tok (s1.toks + 1)
  exact PySem.W.callWith_K0 (first := []) I2.kIn c.kp (run_at (us := []) (vs := []) F hb hx ⟨hr, rfl⟩ I2 .nil hs)
/-- x(), x a class whose __init__ takes any number of things -/
theorem pe_makeR0 (M : Mk X.K C f) (F : FnR X.prog X.w X.K X.mg X.base CX k f sp) (hr : Room (k + 1) X.A) (hg : Gl X x) (hm : X.mg x = some (.ref C)) (hx : Passes CX X E) (hdb : (x == ("__debug__" : Str)) = false := by decide) :
    PE X (.Call (.Name x nap) [] [] pos) (fun σ H Q => ∀ y dx, H y = none → H dx = none → dx ≠ y → sp [V.ref y] (upd (upd H dx (.own y)) y (.ins C dx [])) (fun v H2 => v = .non ∧ Q (.ref y) H2) E) := by
  constructor
  intro pins s σ H Q I h
  refine wpAny_Call_Name_kw (ld_glob I hg hm ?_ hdb)
  exact PySem.W.callWith_K0 (first := []) I.kIn M.kp (StX.run_makeR (us := []) (vs := []) M F hr hx I .nil h)
/-- x(*e) -/
theorem pe_makeSG (M : Mk X.K C f) (F : FnR X.prog X.w X.K X.mg X.base CX k f sp) (hr : Room (k + 1) X.A) (hg : Gl X x) (hm : X.mg x = some (.ref C)) (hx : Passes CX X E) (he : PE X e te) (hdb : (x == ("__debug__" : Str)) = false := by decide)
    (hst : starEach [.Starred e q] X.env = [(true, eval e X.env)] := by rfl) : PE X (.Call (.Name x nap) [.Starred e q] [] pos) (fun σ H Q => te σ H fun z H1 => ∃ a xs, z = .ref a ∧ (SqT X.K H1 a xs ∨ SqL X.K H1 a xs) ∧ ∀ y dx, H1 y = none → H1 dx = none → dx ≠ y →
      sp (V.ref y :: xs) (upd (upd H1 dx (.own y)) y (.ins C dx [])) (fun v H2 => v = .non ∧ Q (.ref y) H2) E) := by
  constructor
  intro pins s σ H Q I h
  refine wpAny_Call_Name_kw (ld_glob I hg hm ?_ hdb)
  refine PySem.W.callWith_S (h₀ := X.base) I.ok.mod.kin M.kp (thn (he.run pins s σ H _ I h) fun v s2 ⟨z, H2, I2, rz, a, xs, ez, hxs, h2⟩ => ?_) hst
  subst ez
  obtain rfl : v = Value.ref a := rz
  exact StX.star_any I2 hxs fun us s3 I3 rv => ⟨I3.kIn, StX.run_makeR M F hr hx I3 rv h2⟩
/-- o.m(), m takes any number of things -/
theorem pe_methR0 {pl : Sem Bool} (he : PE X o ta) (c : Cls X.K C) (hm : Meth X.K C m f) (F : FnR X.prog X.w X.K X.mg X.base CX k f sp) (hr : Room k X.A) (hx : Passes CX X E)
    (ht : eval (.Call (.Attribute o m apos) [] [] pos) X.env = (do
      let ov ← eval o X.env
      standAt apos.atName
      let (f, first) ← holding [ov] (getMethod ov m pl)
      callWith pos f first (backTo pos (starEach [] X.env)) (backToKw pos (keywordEach [] X.env))) := by rfl) : PE X (.Call (.Attribute o m apos) [] [] pos) (fun σ H Q => ta σ H fun z H1 => ∃ a dx fs, z = .ref a ∧ H1 a = some (.ins C dx fs) ∧ fs.lookup m = none ∧ sp [.ref a] H1 Q E) := by
  constructor
  intro pins s σ H Q I h
  refine PySem.W.methodCall_KW (pl := pl) (thn (he.run pins s σ H _ I h) fun u s1 ⟨z, H1, I1, rz, a, dx, fs, ez, ea, l, hs⟩ => ?_) ht
  subst ez
  obtain rfl : u = Value.ref a := rz
  exact getmeth_ok I1 ea c hm l (PySem.W.callWith_K0 (first := [.ref a]) I1.kIn hm.kp (wpAny_call (run_fnR (us := [.ref a]) (vs := [.ref a]) F hr hx I1 (.cons rfl .nil) hs)))
/-- C.m(k = v, ..), m a classmethod -/
theorem pe_cmethK {pl : Sem Bool} {gr : List Value → List Value → List Value} {gV : List V → List V → List V} (he : PE X o ta) (r : ClX.CRead X.K C mc) (c : ClX.CMet X.K C mc m p g) (F : FnOk X.prog X.w X.K X.mg X.base CX k g fd ps sp) (hr : Room k X.A) (hb : KBn X.K fd ps 1 ks gr gV) (hx : Passes CX X E) (hkw : PK X kws tks)
    (hall : (backToKw pos (keywordEach kws X.env)).all (·.1.isSome) = true := by rfl) (hks : (backToKw pos (keywordEach kws X.env)).filterMap (·.1) = ks := by rfl) (hpl : ((backTo pos (starEach [] X.env)).any (·.1) || (backToKw pos (keywordEach kws X.env)).any (·.1.isNone)) = false := by rfl)
    (ht : eval (.Call (.Attribute o m apos) [] kws pos) X.env = (do
      let ov ← eval o X.env
      standAt apos.atName
      let (f, first) ← holding [ov] (getMethod ov m pl)
      callWith pos f first (backTo pos (starEach [] X.env)) (backToKw pos (keywordEach kws X.env))) := by rfl) :
    PE X (.Call (.Attribute o m apos) [] kws pos) (fun σ H Q => ta σ H fun z H1 => z = .ref C ∧ tks σ H1 fun zs H2 => zs.length = ks.length ∧ sp (gV [.ref C] zs) H2 Q E) := by
  constructor
  intro pins s σ H Q I h
  refine PySem.W.methodCall_KW (pl := pl) (thn (he.run pins s σ H _ I h) fun u s1 ⟨z, H1, I1, rz, ez, hs⟩ => ?_) ht
  subst ez
  obtain rfl : u = Value.ref C := rz
  refine ClX.getmethcm_ok I1 r c fun s2 I2 => ?_
  refine PySem.W.callWith_of (P := PySem.W.MethP X.K s1.heap.objs.size g (.ref C)) hpl (PySem.W.keeps_M c.fi) (evalArgs_kw2_nil hall (thn (hkw.run pos _ s2 σ H1 _ I2 hs) fun ws s3 ⟨zs, H2, I3, rw', l2, q2⟩ => ⟨⟨ClX.pin_at I3, I3.kIn⟩, ?_⟩))
  rw [hks]
  have z : wpAny (model X.prog X.w) X.A (call (.ref s1.heap.objs.size) [] (ks.zip ws)) (EP X ((s1.heap.objs.size, PySem.W.methodObj (.ref g) (.ref C)) :: pins) σ Q) X.xe s3 := by
    refine wpAny_call (PySem.W.method_call (ClX.pin_at I3) (codeAny_mono (F.run X.A X.stack s3 H2 ⟨[.ref C], ks.zip ws⟩ (gr [.ref C] ws) (gV [.ref C] zs) Q E hr I3.env0 (hb.to s3 [.ref C] ws I3.kIn rfl (by rw [← l2, rw'.length])) (hb.rel (vs := [.ref C]) (us := [.ref C]) (.cons rfl .nil) rw') q2) fun y z hq => ?_))
    cases y with
    | error e => exact hx _ σ H2 s3 e z I3 hq
    | ok fl =>
      cases fl with
      | ret u => exact I3.after hq
      | next => exact hq.elim
      | brk => exact hq.elim
      | cont => exact hq.elim
  exact thn z fun _ _ y => ClX.unpinE y
end
end K2
end
section
set_option Elab.async false
set_option maxRecDepth 100000
set_option linter.all false
namespace K2
open PySem L2 PySem.Spec PyProof.Rows
abbrev sPlain : Stmt := inClass (top 24) 1
abbrev sLen : Stmt := inClass (top 24) 3
abbrev sCo : Stmt := inClass (top 24) 4
abbrev sEq : Stmt := inClass (top 24) 5
abbrev sWR : Stmt := inClass (top 24) 7
structure Own (K : PySem.W.Frag) (C : Addr) : Prop where
  ha : PySem.W.findIn K (.ref C) "__class__" = some (some (.builtin "object.__class__"))
  hn : PySem.W.specialIn K (.builtin "object.__class__") "__get__" = some (some (.builtin "getset_descriptor.__get__"))
  htk : PySem.W.takesIn K (.builtin "object.__class__") = some true
  hm : PySem.W.mroIn K C (.type "object") = some true
theorem ClsW.ty {K : PySem.W.Frag} {C p : Addr} {H : Hp} {rs : List Row} (h : ClsW C H p rs) (c : Cls K C) (o : Own K C) : TyX K H (.ref p) (.ref C) := by
  obtain ⟨dx, r, n, l, kvs, ts, h1, _⟩ := h
  exact .base (.ins h1 c o.ha o.hn o.htk o.hm)
theorem ClsW.ins {C p : Addr} {H : Hp} {rs : List Row} (h : ClsW C H p rs) : ∃ dx fs, H p = some (.ins C dx fs) ∧ ∀ m : Str, ¬ m = "_lines" → ¬ m = "names" → ¬ m = "rows" → fs.lookup m = none := by
  obtain ⟨dx, r, n, l, kvs, ts, h1, _⟩ := h
  exact ⟨dx, _, h1, fun m a b c => flds_no r n l a b c⟩
theorem kit_own {K : PySem.W.Frag} (C : Addr) : PySem.W.kitOne K (.ref C) (.ref C) = some true := by
  unfold PySem.W.kitOne
  rw [if_pos (by simp)]
theorem right_own {K : PySem.W.Frag} {C p : Addr} {H : Hp} {rs : List Row} (h : ClsW C H p rs) (c : Cls K C) (o : Own K C) : RightT K C H (.ref p) := ⟨_, h.ty c o, by unfold PySem.W.notFirst; simp⟩
def spLenC (C : Addr) : Sp := fun vs H Q _ => ∃ (p : Addr) (rs : List Row), vs = [.ref p] ∧ ClsW C H p rs ∧ Q (.int ((rs.length + 2 : Nat) : Int)) H
def spCo (K : PySem.W.Frag) (C : Addr) : Sp := fun vs H Q _ => ∃ (p : Addr) (x : V) (rs : List Row), vs = [.ref p, x] ∧ ClsW C H p rs ∧
  ((∃ y, x = .str y ∧ Q (.bl (decide (y ∈ keys (ups rs)))) H) ∨ (∃ t, TyX K H x t ∧ PySem.W.kitOne K t (.type "str") = some false ∧ Q (.bl false) H))
def spEqC (K : PySem.W.Frag) (C : Addr) : Sp := fun vs H Q _ => ∃ (p : Addr) (y : V) (rs : List Row), vs = [.ref p, y] ∧ ClsW C H p rs ∧ (∀ r ∈ rs, RowFit r) ∧
  ((∃ q qs, y = .ref q ∧ ClsW C H q qs ∧ (∀ r ∈ qs, RowFit r) ∧ Q (.bl (decide (rs = qs))) H) ∨ (∃ t, TyX K H y t ∧ PySem.W.kitOne K t (.ref C) = some false ∧ Q (.bl false) H))
def spWR (C : Addr) : Sp := fun vs H Q _ => ∃ (p t : Addr) (rs qs : List Row) (ts : List Addr), vs = [.ref p, .ref t] ∧ ClsW C H p rs ∧ H t = some (.tup (ts.map V.ref)) ∧ RowsAt H ts qs ∧ Good (rs ++ qs) ∧ (rs ++ qs).length ≤ 30 ∧
  ∀ (r : Addr) (H' : Hp), ClsW C H' r (rs ++ qs) → Same H H' → Q (.ref r) H'
def spWRr (C : Addr) : Sp := fun vs H Q E => ∃ ws rest, vs = ws ++ rest ∧ ws.length = 1 ∧ rest.length ≤ sizeLine ∧ ∀ p, H p = none → spWR C (ws ++ [V.ref p]) (upd H p (.tup rest)) Q E
def spInitR (C : Addr) : Sp := fun vs H Q E => ∃ ws rest, vs = ws ++ rest ∧ ws.length = 1 ∧ rest.length ≤ sizeLine ∧ ∀ p, H p = none → spInit C (ws ++ [V.ref p]) (upd H p (.tup rest)) Q E
def spPlain (C : Addr) : Sp := fun vs H Q _ => vs = [] ∧ ∀ (r : Addr) (H' : Hp), ClsW C H' r [] → Same H H' → Q (.ref r) H'
theorem RowsAt.app {H : Hp} {ts1 ts2 : List Addr} {rs1 rs2 : List Row} (h1 : RowsAt H ts1 rs1) (h2 : RowsAt H ts2 rs2) : RowsAt H (ts1 ++ ts2) (rs1 ++ rs2) := by
  refine ⟨by simp [h1.1, h2.1], fun i t r a b => ?_⟩
  by_cases hi : i < ts1.length
  · rw [List.getElem?_append_left hi] at a
    rw [List.getElem?_append_left (by rw [← h1.1]; exact hi)] at b
    exact h1.2 i t r a b
  · rw [List.getElem?_append_right (by omega)] at a
    rw [List.getElem?_append_right (by have := h1.1; omega), ← h1.1] at b
    exact h2.2 _ t r a b
/-- what the making of Classes of rows asks -/
theorem initR {C : Addr} {H : Hp} {ts : List Addr} {rs : List Row} {Q : VK} {E : XK} (R : RowsAt H ts rs) (g : Good rs) (h30 : rs.length ≤ 30) (k : ∀ (r : Addr) (H' : Hp), ClsW C H' r rs → Same H H' → Q (.ref r) H') :
    ∀ x dx, H x = none → H dx = none → dx ≠ x → spInitR C (V.ref x :: ts.map V.ref) (upd (upd H dx (.own x)) x (.ins C dx [])) (fun v H2 => v = .non ∧ Q (.ref x) H2) E := by
  intro x dx nx ndx ne
  refine ⟨[V.ref x], _, rfl, rfl, ?_, fun pt hpt => ?_⟩
  · rw [List.length_map, R.1]; show _ ≤ 16777216; omega
  have s1 : Same H (upd (upd H dx (.own x)) x (.ins C dx [])) := ((Same.refl H).put ndx).put nx
  have s2 : Same H (upd (upd (upd H dx (.own x)) x (.ins C dx [])) pt (.tup (ts.map V.ref))) := s1.put (s1.free hpt)
  exact ⟨x, dx, pt, ts, rs, rfl, by rw [upd_ne (ne_of_none upd_same hpt), upd_same], upd_same, R.mono fun b r e => s2 b _ e, g, h30, fun H' cl kp => ⟨rfl, k x H' cl fun b o e => kp b o (s2 b o e) (ne_of_none e nx)⟩⟩
theorem wr_bind (kV doc pm : Value) (an : Option Addr) (cdv ct : Value) : ∀ us rest : List Value, us.length = ["self"].length → bindArgs (PySem.W.fnOf "with_rows" "Classes.with_rows" (defArgs sWR) (defBody sWR) (defScope sWR) .none kV doc pm an cdv ct) ⟨us ++ rest, []⟩ = (newTuple rest >>= fun t => pure (([("self" : Str)]).zip us ++ [(("rows" : Str), t)])) :=
  StX.bind_star1 (B := fun l => bindArgs (PySem.W.fnOf "with_rows" "Classes.with_rows" (defArgs sWR) (defBody sWR) (defScope sWR) .none kV doc pm an cdv ct) ⟨l, []⟩) (fun a => rfl) (fun a r rs => rfl)
section
variable {P : Program} {w : World} {K : PySem.W.Frag} {mg : Str → Option Value} {base : Heap}
theorem scLenC : FnScope ["self"] ["self"] (defScope sLen) := ⟨rfl, rfl, rfl, by decide +kernel, rfl, by decide +kernel, by decide +kernel⟩
theorem scCo : FnScope ["self", "x"] ["self", "x"] (defScope sCo) := ⟨rfl, rfl, rfl, by decide +kernel, rfl, by decide +kernel, by decide +kernel⟩
theorem scEq : FnScope ["self", "other"] ["self", "other"] (defScope sEq) := ⟨rfl, rfl, rfl, by decide +kernel, rfl, by decide +kernel, by decide +kernel⟩
theorem scWR : FnScope ["self", "rows", "both"] ["self", "rows"] (defScope sWR) := ⟨rfl, rfl, rfl, by decide +kernel, rfl, by decide +kernel, by decide +kernel⟩
theorem scPlain : FnScope [] [] (defScope sPlain) := ⟨rfl, rfl, rfl, by decide +kernel, rfl, by decide +kernel, by decide +kernel⟩
theorem ok_lenC {f C : Addr} {fd : FuncData} (F : Fun K "__len__" "Classes.__len__" sLen f fd) (Y : Txt K mg C) (T : Bi mg) : FnOk P w K mg base CX0 1 f fd ["self"] (spLenC C) := by
  refine F.ok scLenC (fun vs H Q E h => ?_) (fun cdv A outer s H vs Q E hr h => ?_)
  · obtain ⟨p, rs, rfl, _⟩ := h
    rfl
  · obtain ⟨p, rs, rfl, cw, k⟩ := h
    refine ⟨_, pss_one (ps_ret (pe_callB call_len_seq (by rfl) T.len PySem.boot_len (pa_cons (pe_fld (pv 0) rfl) pa_nil))), ?_⟩
    obtain ⟨dx, r, n, l, kvs, ts, h1, _, _, h4, _, _⟩ := cw
    refine ⟨_, rfl, p, C, dx, _, _, rfl, h1, Y.cl, Y.nN, flds_names _ _ _, n, _, rfl, .inr (SqT.of h4), ?_⟩
    rw [List.length_map, keys_ups]
    have e : (base0 ++ rs.map (·.1)).length = rs.length + 2 := by
      rw [List.length_append, List.length_map]
      show 2 + rs.length = rs.length + 2
      omega
    rw [e]
    exact k
theorem ok_co {f C : Addr} {fd : FuncData} (F : Fun K "__contains__" "Classes.__contains__" sCo f fd) (Y : Txt K mg C) (T : Bi mg) : FnOk P w K mg base CX0 1 f fd ["self", "x"] (spCo K C) := by
  refine F.ok scCo (fun vs H Q E h => ?_) (fun cdv A outer s H vs Q E hr h => ?_)
  · obtain ⟨p, x, rs, rfl, _⟩ := h
    rfl
  · obtain ⟨p, x, rs, rfl, cw, k⟩ := h
    refine ⟨_, pss_one (ps_ret (pe_and (pe_callB call_isi (by rfl) T.isinstance (by decide +kernel) (pa_cons (pv 1) (pa_cons (pe_bltn (v := .ty "str") (by rfl) T.str (by decide +kernel) rfl) pa_nil))) (pe_one (pe_cmpR op_in_seq (pv 1) (pe_fld (pv 0) rfl) rfl)))), ?_⟩
    obtain ⟨dx, r, n, l, kvs, ts, h1, _, _, h4, _, _⟩ := cw
    rcases k with ⟨y, rfl, k⟩ | ⟨t, ht, hk, k⟩
    · refine ⟨_, rfl, _, _, _, _, true, rfl, .ty _, .base (.str y), kit_ty (by decide +kernel), _, rfl, ?_⟩
      refine iteT ⟨_, rfl, _, rfl, p, C, dx, _, _, rfl, h1, Y.cl, Y.nN, flds_names _ _ _, n, _, rfl, .inr (SqT.of h4), rfl, flat_strs _, ?_⟩
      rw [if_neg Bool.false_ne_true, inV_strs]
      exact k
    · exact ⟨_, rfl, _, _, _, _, false, rfl, .ty _, ht, hk, _, rfl, iteF k⟩
theorem ok_eq {f C : Addr} {fd : FuncData} (F : Fun K "__eq__" "Classes.__eq__" sEq f fd) (Y : Txt K mg C) (T : Bi mg) (O : Own K C) : FnOk P w K mg base CX0 1 f fd ["self", "other"] (spEqC K C) := by
  refine F.ok scEq (fun vs H Q E h => ?_) (fun cdv A outer s H vs Q E hr h => ?_)
  · obtain ⟨p, x, rs, rfl, _⟩ := h
    rfl
  · obtain ⟨p, x, rs, rfl, cw, fit, k⟩ := h
    refine ⟨_, pss_one (ps_ret (pe_and (pe_callB call_isi (by rfl) T.isinstance (by decide +kernel) (pa_cons (pv 1) (pa_cons (pe_glob (v := .ref C) rfl Y.mgC rfl) pa_nil))) (pe_one (pe_cmpR (op_eqD hr.units) (pe_fld (pv 0) rfl) (pe_fld (pv 1) rfl) (nomark _))))), ?_⟩
    rcases k with ⟨q, qs, rfl, cw2, fit2, k⟩ | ⟨t, ht, hk, k⟩
    · refine ⟨_, rfl, _, _, _, _, true, rfl, .own C, cw2.ty Y.cl O, kit_own C, _, rfl, ?_⟩
      obtain ⟨dx, r, n, l, kvs, ts, h1, _, _, _, h5, h6⟩ := cw
      obtain ⟨dy, r2, n2, l2, kvs2, ts2, g1, _, _, _, g5, g6⟩ := cw2
      refine iteT ⟨_, rfl, p, C, dx, _, _, rfl, h1, Y.cl, Y.nR, flds_rows _ _ _, _, rfl, q, C, dy, _, _, rfl, g1, Y.cl, Y.nR, flds_rows _ _ _, rowsD rs, rowsD qs, .tup (SqT.of h5) (rows_dp K rs ts h6), .tup (SqT.of g5) (rows_dp K qs ts2 g6), rowsD_shaped fit, rowsD_shaped fit2, ?_⟩
      rw [rowsD_eqv]
      exact k
    · exact ⟨_, rfl, _, _, _, _, false, rfl, .own C, ht, hk, _, rfl, iteF k⟩
theorem ok_wr {f C fI : Addr} {fd : FuncData} (F : Fun K "with_rows" "Classes.with_rows" sWR f fd) (Y : Txt K mg C) (M : Mk K C fI) (GI : FnR P w K mg base CX0 4 fI (spInitR C)) : FnR P w K mg base CX0 6 f (spWRr C) := by
  obtain ⟨oc, od, kV, doc, pm, an, cdv, ct, osl, rfl, lk, hcd⟩ := F.ex
  refine StX.fn_star (ps := ["self"]) (pv := "rows") lk hcd scWR StX.cxUp_none (wr_bind kV doc pm an cdv ct) fun A outer s H vs Q E hr h => ?_
  obtain ⟨p, t, rs, qs, ts, rfl, cw, ht, R, g, h30, k⟩ := h
  suffices hs : ∃ tt, PSs (cxOf CX0 P w K mg base ["self", "rows", "both"] "Classes.with_rows" (defScope sWR) f cdv A outer s H E).nox (defBody sWR) tt ∧ tt { nx := fun _ H' => Q .non H', rt := Q } (L2.start ["self", "rows", "both"] [V.ref p, V.ref t]) H by
    obtain ⟨tt, h1, h2⟩ := hs
    exact ⟨tt, h1.nox, h2⟩
  refine ⟨_, pss_cons (ps_set (i := 2) scWR.nd rfl (Or.inl rfl) (pe_op op_cat2 (pe_fld (pv 0) rfl) (pv 1))) (pss_one (ps_ret (pe_makeSG M GI hr (by rfl) Y.mgC pass0 (pv 2)))), ?_⟩
  obtain ⟨dx, r, n, l, kvs, ts1, h1, _, _, _, h5, h6⟩ := cw
  rw [List.length_append] at h30
  refine ⟨_, rfl, p, C, dx, _, _, rfl, h1, Y.cl, Y.nR, flds_rows _ _ _, _, rfl, r, t, _, _, rfl, rfl, h5, ht, ?_, fun b H1 s1 hb => ?_⟩
  · rw [List.length_map, List.length_map, h6.1, R.1]; show _ ≤ 16777216; omega
  refine ⟨_, rfl, b, _, rfl, .inl (SqT.of hb), ?_⟩
  rw [← List.map_append]
  exact initR ((h6.app R).mono fun q r e => s1 q _ e) g (by rw [List.length_append]; omega) fun r' H' cl s2 => k r' H' cl (s1.trans s2)
end
end K2
end
section
set_option Elab.async false
set_option maxRecDepth 100000
set_option linter.all false
namespace K2
open PySem L2 PySem.Spec PyProof.Rows
theorem pick_all {α : Type} : ∀ l : List α, (List.range l.length).filterMap (fun k => l[k]?) = l
  | [] => rfl
  | a :: l => by
    rw [List.length_cons, List.range_succ_eq_map, List.filterMap_cons]
    simp only [List.getElem?_cons_zero, List.filterMap_map]
    congr 1
    have e : ((fun k => (a :: l)[k]?) ∘ Nat.succ) = fun k => l[k]? := by
      funext k
      simp
    rw [e]
    exact pick_all l
theorem pick_rev (xs : Array Value) : (List.range xs.size).filterMap (fun (k : Nat) => xs[(((xs.size : Int) - 1) + (k : Int) * (-1)).toNat]?) = xs.toList.reverse := by
  have h := pick_all xs.toList.reverse
  rw [List.length_reverse, Array.length_toList] at h
  refine Eq.trans ?_ h
  have cong : ∀ (l : List Nat) (f g : Nat → Option Value), (∀ k ∈ l, f k = g k) → l.filterMap f = l.filterMap g := by
    intro l f g
    induction l with
    | nil => intro _; rfl
    | cons a l ih =>
      intro q
      rw [List.filterMap_cons, List.filterMap_cons, q a List.mem_cons_self, ih fun k hk => q k (List.mem_cons_of_mem _ hk)]
  refine cong _ _ _ fun k hk => ?_
  have hk := List.mem_range.mp hk
  rw [List.getElem?_reverse (by rw [Array.length_toList]; exact hk), Array.length_toList, Array.getElem?_toList]
  congr 1
  omega
section
variable {prog : Program} {w : World} {A : Around} {E : Value → Shared → Prop} {s : Shared}
theorem rev_applied {sl : Addr} {vs : Value} {n : Nat} {Q : Int × Int × Nat → Shared → Prop} (hn : 0 < n) (hs : s.heap.IsSliceOf sl .none .none vs) (ps : IsPart vs (some (-1)))
    (h : Q (((n : Int) - 1), -1, n) s) : wpAny (model prog w) A (Builtin.Slice.sliceApplied (.ref sl) (pure (n : Int))) Q E s := by
  obtain ⟨os, hos, hcs, hds⟩ := id hs
  unfold Builtin.Slice.sliceApplied Builtin.Slice.sliceFields
  refine wpAny_bind (wpAny_bind (wpAny_field hos hds (x := .none) rfl (wpAny_bind (wpAny_field hos hds (x := .none) rfl (wpAny_bind (wpAny_field hos hds (x := vs) rfl (wpAny_pure ?_)))))))
  refine wpAny_bind (HT.slicePart_ ps ?_)
  show wpAny _ _ (if ((-1 : Int) == 0) = true then _ else _) _ _ s
  rw [if_neg (by decide)]
  refine wpAny_bind (slicePart_none (wpAny_bind (slicePart_none (wpAny_bind (wpAny_pure ?_)))))
  have e : Builtin.Slice.slicePlaces ((n : Int) - 1) (-1) (-1) = n := by
    unfold Builtin.Slice.slicePlaces
    rw [if_neg (by decide), if_pos (by omega)]
    have : ((n : Int) - 1 - -1 - 1) / (- -1) + 1 = n := by
      rw [show (- -1 : Int) = 1 from rfl, Int.ediv_one]
      omega
    rw [this]
    rfl
  show wpAny _ _ (pure (((n : Int) - 1), (-1 : Int), Builtin.Slice.slicePlaces ((n : Int) - 1) (-1) (-1))) _ _ s
  rw [e]
  exact wpAny_pure h
theorem rev_tuple {t sl : Addr} {items : Array Value} {vs : Value} {Q : Value → Shared → Prop} (hn : 0 < items.size) (ht : IsTup s.heap t items) (hs : s.heap.IsSliceOf sl .none .none vs) (ps : IsPart vs (some (-1)))
    (h : Q (.ref s.heap.objs.size) { s with heap := s.heap.push { cls := .type "tuple", data := .seq items.toList.reverse.toArray } }) (hsz : items.size ≤ sizeLine) : wpAny (model prog w) A (getItem (.ref t) (.ref sl)) Q E s := by
  have hz : sizeOk (.seq items.toList.reverse.toArray) := by
    show items.toList.reverse.toArray.size ≤ sizeLine
    rw [List.size_toArray, List.length_reverse, Array.length_toList]
    exact hsz
  obtain ⟨os, hos, hcs, hds⟩ := id hs
  have hTs : s.TypeIs (.ref sl) "slice" := ⟨os, hos, hcs⟩
  unfold getItem
  try with_reducible refine wpAny_holding ?_
  first | refine wpAny_bind (wpAny_pure ?_) | skip
  refine wpAny_bind (wpAny_sequenceKey ht.typeIs (by decide) ?_)
  refine wpAny_bind (wpAny_callSpecial?_slot (name := Str.ofString "__getitem__") ht.typeIs PyProof.Rows.slot_tuple_getitem
    (wpAny_call_entry PyProof.Rows.slot_tuple_getitem ht.typeIs entry_tuple_getitem ?_ (args_tuple_getitem _ _)))
  show wpAny _ _ (Builtin.Tuple.tupleItemsOf (.ref t) >>= _) _ _ s
  refine wpAny_bind (PyProof.Rows.tupleItemsOf_ ht ?_)
  refine wpAny_bind (wpAny_typeOf hTs ?_)
  rw [if_pos (by decide)]
  refine wpAny_bind (rev_applied hn hs ps ?_)
  have no : ¬ ((((items.size : Int) - 1) == 0 && (-1 : Int) == 1 && items.size == items.size) = true) := by simp
  show wpAny _ _ (if (((items.size : Int) - 1) == 0 && (-1 : Int) == 1 && items.size == items.size) = true then _ else _) _ _ s
  rw [if_neg no, pick_rev]
  first
    | exact wpAny_bind (m := Builtin.Tuple.tupleExact _) (wpAny_newObj_type (wpAny_pure ⟨_, rfl, wpAny_pure h⟩) hz)
    | exact wpAny_bind (m := Builtin.Tuple.tupleExact _) (wpAny_newObj_type (wpAny_bind (wpAny_pure (wpAny_pure ⟨_, rfl, wpAny_pure h⟩))) hz)
    | exact wpAny_bind (wpAny_bind (m := Builtin.Tuple.tupleExact _) (wpAny_newObj_type (wpAny_pure (wpAny_pure ⟨_, rfl, wpAny_pure h⟩)) hz))
    | exact wpAny_bind (wpAny_bind (m := Builtin.Tuple.tupleExact _) (wpAny_newObj_type (wpAny_pure ⟨_, rfl, wpAny_pure h⟩) hz))
end
/-- t[::-1] of a tuple -/
def tRevT (te : TE) : TE := fun σ H Q => te σ H fun x H1 => ∃ a xs, x = .ref a ∧ H1 a = some (.tup xs) ∧ 0 < xs.length ∧ ∀ p, H1 p = none → Q (.ref p) (upd H1 p (.tup xs.reverse))
theorem pe_revT {X : Cx} {e : Expr} {te : TE} {k : Nat} {p1 p2 p3 pos : Pos} (he : PE X e te) : PE X (.Subscript e (.Slice none none (some (.UnaryOp .USub (.Constant (.int 1) k p1) p2)) p3) pos) (tRevT te) := by
  constructor
  intro pins s σ H Q I h
  refine Subscript_ (thn (he.run pins s σ H _ I h) fun v s1 ⟨x, H1, I1, r1, a, xs, ex, hx, hn, q⟩ => ?_)
  subst ex
  cases r1
  have hst : PO X (some (.UnaryOp .USub (.Constant (.int 1) k p1) p2)) (tPart (tUn (rU fun i => .int (-i)) (tC (.int 1)))) := po_some (pe_un un_neg pe_int)
  refine wpAny_Slice (thn (po_none.run pins s1 σ H1 (fun o H2 => o = none ∧ H2 = H1) I1 ⟨rfl, rfl⟩) fun vl s2 ⟨l, H2, I2, pl, el, e2⟩ => ?_)
  subst el e2
  refine thn (po_none.run pins s2 σ H2 (fun o H3 => o = none ∧ H3 = H2) I2 ⟨rfl, rfl⟩) fun vu s3 ⟨u, H3, I3, pu, eu, e3⟩ => ?_
  subst eu e3
  refine thn (hst.run pins s3 σ H3 (fun o H4 => o = some (-1) ∧ H4 = H3) I3 ⟨1, rfl, -1, rfl, rfl, rfl⟩) fun vs s4 ⟨o, H4, I4, ps, eo, e4⟩ => ?_
  subst eo e4
  cases pl
  cases pu
  have I5 : Inv X pins σ H4 { s4 with heap := s4.heap.push { cls := .type "slice", data := .fields #[.none, .none, vs] } } := I4.kept (t' := s4.toks) fun b ob q => Heap.get?_push_of_some _ q
  obtain ⟨its, r, ht, hz⟩ := I5.tuple (SqT.of hx)
  have hlen := r.length
  show wpAny (model X.prog X.w) X.A (subscriptTail e (.Slice none none (some (.UnaryOp .USub (.Constant (.int 1) k p1) p2)) p3) (.ref a) (.ref s4.heap.objs.size)) (EP X pins σ Q) X.xe { s4 with heap := s4.heap.push { cls := .type "slice", data := .fields #[.none, .none, vs] } }
  refine tail_any (ops := [.ref a, .ref s4.heap.objs.size]) ht.typeIs (PyProof.Rows.slot_tuple_getitem.lookup) ?_ (by with_unfolding_all rfl)
  refine rev_tuple (by rw [List.size_toArray]; omega) ht (Heap.IsSliceOf.new _ .none .none vs) ps ?_ (by rw [List.size_toArray]; omega)
  refine ⟨.ref _, _, I5.laid (t' := s4.toks) (o := .tup xs.reverse) (fun b ob q => Heap.get?_push_of_some _ q) (Nat.le_refl _) ?_, rfl, q _ (I5.hok.fresh (Nat.le_refl _))⟩
  exact ⟨by rw [List.length_reverse]; exact hz, _, r.reverse, IsTup.new _ _⟩
end K2
end
section
set_option Elab.async false
set_option maxRecDepth 100000
set_option linter.all false
namespace K2
open PySem L2
theorem _root_.L2.TyX.same {K : PySem.W.Frag} {H H' : Hp} {x : V} {t : Value} (h : TyX K H x t) (s : Same H H') : TyX K H' x t := by
  cases h with
  | base h =>
    cases h with
    | non => exact .base .non
    | bl b => exact .base (.bl b)
    | int i => exact .base (.int i)
    | str y => exact .base (.str y)
    | flt y => exact .base (.flt y)
    | lst e => exact .base (.lst (s _ _ e))
    | frz e => exact .base (.frz (s _ _ e))
    | tup e => exact .base (.tup (s _ _ e))
    | dK e => exact .base (.dK (s _ _ e))
    | dT e => exact .base (.dT (s _ _ e))
    | ins e cl ha hn htk hm => exact .base (.ins (s _ _ e) cl ha hn htk hm)
  | byt b => exact .byt b
  | set e => exact .set (s _ _ e)
  | kList e c => exact .kList e c
  | kTuple e c => exact .kTuple e c
  | kDict e c => exact .kDict e c
  | fTuple e => exact .fTuple (s _ _ e)
  | fDict e => exact .fDict (s _ _ e)
/-- is_word of a text -/
def isW (x : Str) : Bool := !decide (8 < x.length) && (Txt.isascii x && (Txt.isalpha x && (Txt.islower x && !decide (x ∈ resd))))
theorem vw_isW {x : Str} (h : VW x) : isW x = true := by
  have hl : x.length ≤ 8 := by rw [len_codes]; exact h.le
  unfold isW
  rw [vw_ascii h, vw_alpha h, vw_lower h, decide_eq_false h.nr, decide_eq_false (by omega)]
  rfl
theorem long_isW {x : Str} (h : 8 < x.length) : isW x = false := by
  unfold isW
  rw [decide_eq_true h]
  rfl
/-- is_word of a value gives b -/
inductive WdV (K : PySem.W.Frag) (H : Hp) : V → Bool → Prop where
  | str (x : Str) (l : x.length ≤ sizeLine) : WdV K H (.str x) (isW x)
  | no {x : V} {t : Value} (ty : TyX K H x t) (k : PySem.W.kitOne K t (.type "str") = some false) : WdV K H x false
theorem WdV.same {K : PySem.W.Frag} {H H' : Hp} {x : V} {b : Bool} (h : WdV K H x b) (s : Same H H') : WdV K H' x b := by
  cases h with
  | str x l => exact .str x l
  | no ty k => exact .no (ty.same s) k
theorem WdV.vw {K : PySem.W.Frag} {H : Hp} {x : Str} (h : VW x) : WdV K H (.str x) true := by
  have := WdV.str (K := K) (H := H) x (Nat.le_trans (by rw [len_codes]; exact h.le) (by decide : 8 ≤ sizeLine))
  rwa [vw_isW h] at this
def spIsWG (K : PySem.W.Frag) : Sp := fun vs H Q _ => ∃ (x : V) (b : Bool), vs = [x] ∧ WdV K H x b ∧ Q (.bl b) H
/-- what the items of a tuple give -/
def WdAll (K : PySem.W.Frag) (H : Hp) (xs : List V) (bs : List Bool) : Prop := xs.length = bs.length ∧ ∀ (i : Nat) (x : V) (b : Bool), xs[i]? = some x → bs[i]? = some b → WdV K H x b
theorem WdAll.vw {K : PySem.W.Frag} {H : Hp} {xs : List Str} (h : ∀ x ∈ xs, VW x) : WdAll K H (xs.map V.str) (xs.map fun _ => true) :=
  ⟨by simp, fun i x b h1 h2 => by
    rw [List.getElem?_map] at h1 h2
    cases hx : xs[i]? with
    | none => rw [hx] at h1; cases h1
    | some y =>
      rw [hx] at h1 h2
      cases h1
      cases h2
      exact .vw (h y (List.mem_of_getElem? hx))⟩
def spAreWG (K : PySem.W.Frag) : Sp := fun vs H Q _ => ∃ (t : Addr) (xs : List V) (bs : List Bool), vs = [.ref t] ∧ H t = some (.tup xs) ∧ WdAll K H xs bs ∧ xs.length ≤ 100 ∧ ∀ H', Same H H' → Q (.bl (bs.all id)) H'
section
variable {P : Program} {w : World} {K : PySem.W.Frag} {mg : Str → Option Value} {base : Heap}
theorem ok_iswG {f aR : Addr} {t1 t2 : Tok} {fd : FuncData} (F : Fun K "is_word" "is_word" sIsW f fd) (T : Bi mg) (G : Gb K mg aR t1 t2) : FnOk P w K mg base CX0 1 f fd ["x"] (spIsWG K) := by
  refine F.ok scIsW (fun vs H Q E h => ?_) (fun cdv A outer s H vs Q E hr h => ?_)
  · obtain ⟨x, b, rfl, _⟩ := h
    rfl
  · obtain ⟨x, b, rfl, hx, k⟩ := h
    refine ⟨_, (pss_cons (ps_if (PW.pt (pw_or (pt_not (pt_val (pe_callB call_isi (by rfl) T.isinstance (by decide +kernel) (pa_cons (pv 0) (pa_cons (pe_bltn (v := .ty "str") (by rfl) T.str (by decide +kernel) rfl) pa_nil))))) (pw_or1 (pt_cmpR op_gt (pe_callB call_len_str (by rfl) T.len PySem.boot_len (pa_cons (pv 0) pa_nil)) (pe_glob (v := .int 8) rfl G.long ⟨_, rfl⟩) (nomark _)))))
      (pss_one (ps_ret pe_bl))
      pss_nil)
      (pss_one (ps_ret (pe_and (pe_m0 PySem.F.slot_str_isascii PySem.F.type_str_isascii mt_isascii (pv 0)) (pe_and (pe_m0 PySem.F.slot_str_isalpha PySem.F.type_str_isalpha mt_isalpha (pv 0)) (pe_and (pe_m0 PySem.F.slot_str_islower PySem.F.type_str_islower mt_islower (pv 0)) (pe_one (pe_cmpR op_notIn_seq (pv 0) (pe_glob (v := .ref aR) rfl G.res rfl) rfl)))))))), ?_⟩
    cases hx with
    | no ty kk => exact ⟨_, rfl, _, _, _, _, false, rfl, .ty _, ty, kk, _, rfl, iteT k⟩
    | str x hl =>
      refine ⟨_, rfl, _, _, _, _, true, rfl, .ty _, .base (.str _), kit_ty (by decide +kernel), _, rfl, ?_⟩
      refine ⟨_, rfl, _, rfl, hl, _, _, rfl, rfl, _, rfl, ite2 (fun h8 => ?_) (fun h8 => ?_)⟩
      · have h8 := of_decide_eq_true h8
        rw [long_isW (by omega)] at k
        exact k
      have h8 : ¬ 8 < x.length := fun q => h8 (decide_eq_true (by omega))
      have e : isW x = (Txt.isascii x && (Txt.isalpha x && (Txt.islower x && !decide (x ∈ resd)))) := by
        unfold isW
        rw [decide_eq_false h8]
        rfl
      rw [e] at k
      refine ⟨_, rfl, ⟨_, rfl⟩, _, rfl, rfl, trivial, _, rfl, ?_⟩
      cases h1 : Txt.isascii x with
      | false => rw [h1] at k; exact iteF k
      | true =>
        rw [h1] at k
        refine iteT ⟨_, rfl, ⟨_, rfl⟩, _, rfl, rfl, trivial, _, rfl, ?_⟩
        cases h2 : Txt.isalpha x with
        | false => rw [h2] at k; exact iteF k
        | true =>
          rw [h2] at k
          refine iteT ⟨_, rfl, ⟨_, rfl⟩, _, rfl, rfl, trivial, _, rfl, ?_⟩
          cases h3 : Txt.islower x with
          | false => rw [h3] at k; exact iteF k
          | true =>
            rw [h3] at k
            refine iteT ⟨_, rfl, aR, _, rfl, .inr (G.resT H), rfl, flat_strs _, ?_⟩
            rw [if_pos rfl, inV_strs]
            exact k
theorem ok_arewG {f fI : Addr} {fd fdI : FuncData} (F : Fun K "are_words" "are_words" sAreW f fd) (T : Bi mg) (IW : Df K mg "is_word" sIsW fI fdI ["x"]) (GI : FnOk P w K mg base CX0 1 fI fdI ["x"] (spIsWG K)) : FnOk P w K mg base CX0 2 f fd ["xs"] (spAreWG K) := by
  refine F.ok scAreW (fun vs H Q E h => ?_) (fun cdv A outer s H vs Q E hr h => ?_)
  · obtain ⟨t, xs, bs, rfl, _⟩ := h
    rfl
  · obtain ⟨t, xs, bs, rfl, ht, hx, hl, k⟩ := h
    have hr0 : Room 1 _ := hr
    refine ⟨_, (pss_one (ps_ret (pe_callB (cr_all rfl) (by rfl) T.all (by decide +kernel) (pa_cons (pe_lc (own := [("x", 1)]) (g := gName 1) (tt := tYes) rfl scAreW.nd (pi_tup (pv 0)) (blkOk_by (N := nAreW) (sc := defScope sAreW) (by decide +kernel)) (fun _ _ _ _ _ => pg_name (i := 1) scAreW.nd rfl (Or.inl rfl)) (fun _ _ _ _ _ => pts_nil) (fun _ _ _ _ _ => pe_call GI hr0 (by rfl) IW.m IW.F.kp IW.b .nil pass0 (pa_cons (pv 1) pa_nil))) pa_nil)))), ?_⟩
    refine ⟨_, rfl, t, rfl, ⟨_, SqT.of ht⟩, fun D hD => ?_⟩
    refine lc_tup (K := K) (a := t) (xs := xs) (fun i Hc => Hc D = some (.lst ((bs.take i).map V.bl)) ∧ Same H Hc) ?_ ?_ ?_ ?_
    · exact ⟨upd_same, (Same.refl H).put hD⟩
    · rintro i Hc _ ⟨_, sm⟩
      exact SqT.of (sm t _ ht)
    · rintro i y Hc hy ⟨h1, sm⟩
      have hil : i < xs.length := (List.getElem?_eq_some_iff.mp hy).1
      have hbi : bs[i]? = some (bs[i]'(by rw [← hx.1]; exact hil)) := List.getElem?_eq_getElem _
      generalize bs[i]'(by rw [← hx.1]; exact hil) = b at hbi
      refine ⟨rfl, _, rfl, y, b, rfl, (hx.2 i y b hy hbi).same sm, _, h1, ?_, ?_, sm.put hD⟩
      · rw [List.length_map, List.length_take]; show _ < 16777216; omega
      · rw [upd_same, List.take_add_one, hbi, List.map_append]
        rfl
    · rintro Hc ⟨h1, sm⟩
      rw [hx.1, List.take_length] at h1
      exact ⟨D, _, rfl, SqL.of h1, k Hc sm⟩
end
/-! ### NoClass -/
abbrev sNCI : Stmt := inClass (top 3) 0
def spNCI (C : Addr) : Sp := fun vs H Q _ => ∃ (a : Addr) (v1 v2 : V), vs = [.ref a, v1, v2] ∧ H a = some (exo a C none) ∧
  ∀ (d : Addr) (H' : Hp), H d = none → d ≠ a → H' a = some (exo a C (some d)) → H' d = some (exd d [("place", v2), ("reason", v1)]) → (∀ b o, H b = some o → b ≠ a → H' b = some o) → Q .non H'
structure NC (K : PySem.W.Frag) (mg : Str → Option Value) (C fI : Addr) : Prop where
  oex : OexC K C
  n1 : PySem.W.findIn K (.ref C) "reason" = some none
  n2 : PySem.W.findIn K (.ref C) "place" = some none
  iC : PySem.W.findIn K (.ref C) "__init__" = some (some (.ref fI))
  tI : PySem.W.typeIn K (.ref fI) = some (.type "function")
  gC : mg "NoClass" = some (.ref C)
section
variable {P : Program} {w : World} {K : PySem.W.Frag} {mg : Str → Option Value} {base : Heap}
theorem scNCI : FnScope ["self", "reason", "place"] ["self", "reason", "place"] (defScope sNCI) := ⟨rfl, rfl, rfl, by decide +kernel, rfl, by decide +kernel, by decide +kernel⟩
theorem ok_nci {f C : Addr} {fd : FuncData} (F : Fun K "__init__" "NoClass.__init__" sNCI f fd) (M : NC K mg C f) : FnOk P w K mg base CX0 1 f fd ["self", "reason", "place"] (spNCI C) := by
  refine F.ok scNCI (fun vs H Q E h => ?_) (fun cdv A outer s H vs Q E hr h => ?_)
  · obtain ⟨a, v1, v2, rfl, _⟩ := h
    rfl
  · obtain ⟨a, v1, v2, rfl, ha, k⟩ := h
    refine ⟨_, pss_cons (ps_ost (pv 0) (pv 1)) (pss_one (ps_ost (pv 0) (pv 2))), ?_⟩
    refine ⟨_, rfl, _, rfl, a, C, rfl, M.oex, M.n1, .inl ⟨ha, fun d hd hne => ?_⟩⟩
    have e1 : (upd (upd H d (exd d [("reason", v1)])) a (exo a C (some d))) d = some (exd d [("reason", v1)]) := by rw [upd_ne hne, upd_same]
    refine ⟨_, rfl, _, rfl, a, C, rfl, M.oex, M.n2, .inr ⟨d, _, upd_same, e1, (by show 1 ≤ 900; decide), ?_⟩⟩
    refine k d _ hd hne (by rw [upd_ne (Ne.symm hne), upd_same]) upd_same fun b o hb n => ?_
    rw [upd_ne (ne_of_none hb hd), upd_ne n, upd_ne (ne_of_none hb hd)]
    exact hb
end
end K2
end
section
set_option Elab.async false
set_option maxRecDepth 100000
set_option linter.all false
namespace K2
open PySem L2
/-- row n, a value v, has the fault r behind the names nm -/
inductive FaultV (K : PySem.W.Frag) (H : Hp) (nm : List Str) : V → Nat → Str → Prop where
  | many (v : V) : FaultV K H nm v 30 "many"
  | row1 {v : V} {t : Value} {n : Nat} (hn : n < 30) (ty : TyX K H v t) (k : PySem.W.kitOne K t (.type "tuple") = some false) : FaultV K H nm v n "row"
  | row2 {a : Addr} {xs : List V} {n : Nat} (hn : n < 30) (h : H a = some (.tup xs)) (l : xs.length < 2) : FaultV K H nm (.ref a) n "row"
  | row3 {a : Addr} {xs : List V} {bs : List Bool} {n : Nat} (hn : n < 30) (h : H a = some (.tup xs)) (l : 2 ≤ xs.length) (l2 : xs.length ≤ 100) (wd : WdAll K H xs bs) (no : bs.all id = false) : FaultV K H nm (.ref a) n "row"
  | name {a : Addr} {x : Str} {bs : List Str} {n : Nat} (hn : n < 30) (h : H a = some (.tup ((x :: bs).map V.str))) (l : bs ≠ []) (l2 : bs.length ≤ 90) (vw : ∀ y ∈ x :: bs, VW y) (hx : x ∈ nm) : FaultV K H nm (.ref a) n "name"
  | base {a : Addr} {x : Str} {bs : List Str} {n : Nat} (hn : n < 30) (h : H a = some (.tup ((x :: bs).map V.str))) (l : bs ≠ []) (l2 : bs.length ≤ 90) (vw : ∀ y ∈ x :: bs, VW y) (hx : x ∉ nm) (hb : ∃ b ∈ bs, b ∉ nm) : FaultV K H nm (.ref a) n "base"
def spFaultX (K : PySem.W.Frag) : Sp := fun vs H Q _ => ∃ (v : V) (d : Addr) (n : Nat) (r : Str) (kvs : List (Key × V)) (tb : Tb), vs = [v, .int n, .ref d] ∧ H d = some (.dK kvs) ∧ Tab fD H kvs tb ∧ FaultV K H (keys tb) v n r ∧
  ∀ (H' : Hp), Same H H' → Q (.str r) H'
theorem Tab.some_iff {f : List Str → HO} {H : Hp} {kvs : List (Key × V)} {tb : Tb} (TB : Tab f H kvs tb) (x : Str) : (valV kvs (Sum.inr x : Key)).isSome = decide (x ∈ keys tb) := by
  by_cases h : x ∈ keys tb
  · obtain ⟨u, hu, _⟩ := TB.val h
    rw [hu, decide_eq_true h]
    rfl
  · rw [TB.none h, decide_eq_false h]
    rfl
section
variable {P : Program} {w : World} {K : PySem.W.Frag} {mg : Str → Option Value} {base : Heap}
theorem ok_faultX {f fA fF aR : Addr} {fd fdA fdF : FuncData} {t1 t2 : Tok} (F : Fun K "_fault" "_fault" sFault f fd) (T : Bi mg) (G : Gb K mg aR t1 t2) (AW : Df K mg "are_words" sAreW fA fdA ["xs"]) (GA : FnOk P w K mg base CX0 2 fA fdA ["xs"] (spAreWG K))
    (AD : Df K mg "are_different" sAreD fF fdF ["words"]) (GF : FnOk P w K mg base CX0 1 fF fdF ["words"] spAreD) : FnOk P w K mg base CX0 3 f fd ["row", "k", "lines"] (spFaultX K) := by
  refine F.ok scFault (fun vs H Q E h => ?_) (fun cdv A outer s H vs Q E hr h => ?_)
  · obtain ⟨v, d, n, r, kvs, tb, rfl, _⟩ := h
    rfl
  · obtain ⟨v, d, n, r, kvs, tb, rfl, hd, TB, FV, k⟩ := h
    have hu := hu_of hr
    have hr2 : Room 2 _ := hr
    have hr1 : Room 1 _ := hr.mono (by decide)
    refine ⟨_, (pss_cons (ps_if (pt_cmpR op_eq (pv 1) (pe_glob (v := .int 30) rfl G.most ⟨_, rfl⟩) (nomark _))
      (pss_one (ps_ret pe_str))
      pss_nil)
      (pss_cons (ps_if (PW.pt (pw_or (pt_not (pt_val (pe_callB call_isi (by rfl) T.isinstance (by decide +kernel) (pa_cons (pv 0) (pa_cons (pe_bltn (v := .ty "tuple") (by rfl) T.tuple (by decide +kernel) rfl) pa_nil))))) (pw_or (pt_cmpR op_lt (pe_callB call_len_seq (by rfl) T.len PySem.boot_len (pa_cons (pv 0) pa_nil)) pe_int (nomark _)) (pw_or1 (pt_not (pt_val (pe_call GA hr2 (by rfl) AW.m AW.F.kp AW.b .nil pass0 (pa_cons (pv 0) pa_nil))))))))
      (pss_one (ps_ret pe_str))
      pss_nil)
      (pss_cons (ps_if (pt_cmp (pc_din hu (pe_ix ix_tup (pv 0) pe_int (fun _ _ => rfl)) (pv 2)))
      (pss_one (ps_ret pe_str))
      pss_nil)
      (pss_cons (ps_set (i := 3) scFault.nd rfl (Or.inl rfl) (pe_slice sl_tup2 (pv 0) (po_some pe_int) po_none))
      (pss_cons (ps_if (PW.pt (pw_or (pt_not (pt_val (pe_callB (cr_all rfl) (by rfl) T.all (by decide +kernel) (pa_cons (pe_lc (own := [("base", 4)]) (g := gName 4) (tt := tYes) rfl scFault.nd (pi_tup (pv 3)) (blkOk_by (N := nFault) (sc := defScope sFault) (by decide +kernel)) (fun _ _ _ _ _ => pg_name (i := 4) scFault.nd rfl (Or.inl rfl)) (fun _ _ _ _ _ => pts_nil) (fun _ _ _ _ _ => pe_cmp (pc_din hu (pv 4) (pv 2)) rfl)) pa_nil)))) (pw_or1 (pt_not (pt_val (pe_call GF hr1 (by rfl) AD.m AD.F.kp AD.b .nil pass0 (pa_cons (pv 3) pa_nil)))))))
      (pss_one (ps_ret pe_str))
      pss_nil)
      (pss_one (ps_ret pe_non))))))), ?_⟩
    have n30 : ∀ {m : Nat}, m < 30 → ¬ (decide (V.int (m : Int) = V.int 30) = true) := fun h q => by
      have e := V.int.inj (of_decide_eq_true q)
      omega
    have isT : ∀ {a : Addr} {xs : List V} {H : Hp}, H a = some (.tup xs) → TyX K H (.ref a) (.type "tuple") := fun h => .base (.tup h)
    cases FV with
    | many v => exact ⟨_, rfl, rfl, _, rfl, ite2 (fun _ => k H (Same.refl H)) fun h => absurd (decide_eq_true rfl) h⟩
    | row1 hn ty kk =>
      refine ⟨_, rfl, rfl, _, rfl, ite2 (fun h0 => absurd h0 (n30 hn)) fun _ => ?_⟩
      exact ⟨_, rfl, _, _, _, _, false, rfl, .ty _, ty, kk, _, rfl, iteT (k H (Same.refl H))⟩
    | row2 hn ht l =>
      rename_i a xs
      refine ⟨_, rfl, rfl, _, rfl, ite2 (fun h0 => absurd h0 (n30 hn)) fun _ => ?_⟩
      refine ⟨_, rfl, _, _, _, _, true, rfl, .ty _, isT ht, kit_ty (by decide +kernel), _, rfl, ?_⟩
      refine ⟨_, rfl, a, _, rfl, .inr (SqT.of ht), _, _, rfl, rfl, _, rfl, ite2 (fun _ => k H (Same.refl H)) (fun h0 => ?_)⟩
      exact absurd (decide_eq_true (by omega)) h0
    | row3 hn ht l l2 wd no =>
      rename_i a xs bs
      refine ⟨_, rfl, rfl, _, rfl, ite2 (fun h0 => absurd h0 (n30 hn)) fun _ => ?_⟩
      refine ⟨_, rfl, _, _, _, _, true, rfl, .ty _, isT ht, kit_ty (by decide +kernel), _, rfl, ?_⟩
      refine ⟨_, rfl, a, _, rfl, .inr (SqT.of ht), _, _, rfl, rfl, _, rfl, ite2 (fun h0 => ?_) (fun _ => ?_)⟩
      · have := of_decide_eq_true h0
        omega
      refine ⟨_, rfl, a, xs, bs, rfl, ht, wd, l2, fun H1 s1 => ⟨_, rfl, ?_⟩⟩
      rw [no]
      exact iteT (k H1 s1)
    | name hn ht l l2 vw hx =>
      rename_i a x bs
      refine ⟨_, rfl, rfl, _, rfl, ite2 (fun h0 => absurd h0 (n30 hn)) fun _ => ?_⟩
      refine ⟨_, rfl, _, _, _, _, true, rfl, .ty _, isT ht, kit_ty (by decide +kernel), _, rfl, ?_⟩
      refine ⟨_, rfl, a, _, rfl, .inr (SqT.of ht), _, _, rfl, rfl, _, rfl, ite2 (fun h0 => ?_) (fun _ => ?_)⟩
      · have := of_decide_eq_true h0
        have h1 := List.length_pos_iff.mpr l
        rw [List.length_map, List.length_cons] at this
        omega
      refine ⟨_, rfl, a, _, _, rfl, ht, .vw vw, ?_, fun H1 s1 => ⟨_, rfl, ?_⟩⟩
      · rw [List.length_map, List.length_cons]; omega
      have e : (((x :: bs).map fun _ => true).all id) = true := by simp
      rw [e]
      refine iteF ⟨_, rfl, a, _, _, _, rfl, rfl, SqT.of (s1 a _ ht), atI_nat (j := 0) rfl, _, rfl, d, _, rfl, DGet.k (k := Sum.inr x) (s1 d _ hd), _, rfl, ?_⟩
      rw [TB.some_iff, decide_eq_true hx]
      exact iteT (k H1 s1)
    | base hn ht l l2 vw hx hb =>
      rename_i a x bs
      refine ⟨_, rfl, rfl, _, rfl, ite2 (fun h0 => absurd h0 (n30 hn)) fun _ => ?_⟩
      refine ⟨_, rfl, _, _, _, _, true, rfl, .ty _, isT ht, kit_ty (by decide +kernel), _, rfl, ?_⟩
      refine ⟨_, rfl, a, _, rfl, .inr (SqT.of ht), _, _, rfl, rfl, _, rfl, ite2 (fun h0 => ?_) (fun _ => ?_)⟩
      · have := of_decide_eq_true h0
        have h1 := List.length_pos_iff.mpr l
        rw [List.length_map, List.length_cons] at this
        omega
      refine ⟨_, rfl, a, _, _, rfl, ht, .vw vw, ?_, fun H1 s1 => ⟨_, rfl, ?_⟩⟩
      · rw [List.length_map, List.length_cons]; omega
      have e : (((x :: bs).map fun _ => true).all id) = true := by simp
      rw [e]
      refine iteF ⟨_, rfl, a, _, _, _, rfl, rfl, SqT.of (s1 a _ ht), atI_nat (j := 0) rfl, _, rfl, d, _, rfl, DGet.k (k := Sum.inr x) (s1 d _ hd), _, rfl, ?_⟩
      rw [TB.some_iff, decide_eq_false hx]
      refine iteF ⟨_, rfl, _, rfl, a, _, rfl, s1 a _ ht, fun bp H2 s2 hbp => ?_⟩
      rw [cut1'] at hbp
      have s12 := s1.trans s2
      refine ⟨_, rfl, bp, rfl, ⟨_, SqT.of hbp⟩, fun D hD => ?_⟩
      refine lc_tup (K := K) (a := bp) (xs := bs.map V.str) (fun i Hc => Hc D = some (.lst (((bs.take i).map fun b => decide (b ∈ keys tb)).map V.bl)) ∧ Same H2 Hc) ?_ ?_ ?_ ?_
      · exact ⟨upd_same, (Same.refl H2).put hD⟩
      · rintro i Hc _ ⟨_, sm⟩
        exact SqT.of (sm bp _ hbp)
      · rintro i y Hc hy ⟨h1, sm⟩
        have hil : i < bs.length := by
          have := (List.getElem?_eq_some_iff.mp hy).1
          rwa [List.length_map] at this
        have hbi : bs[i]? = some bs[i] := List.getElem?_eq_getElem hil
        rw [List.getElem?_map, hbi] at hy
        have et : bs.take (i + 1) = bs.take i ++ [bs[i]] := by rw [List.take_add_one, hbi]; rfl
        generalize bs[i] = b at hbi hy et
        cases hy
        refine ⟨rfl, _, rfl, _, rfl, d, _, rfl, DGet.k (k := Sum.inr b) (sm d _ (s12 d _ hd)), _, h1, ?_, ?_, sm.put hD⟩
        · rw [List.length_map, List.length_map, List.length_take]; show _ < 16777216; omega
        · rw [upd_same, et, List.map_append, List.map_append, TB.some_iff]
          rfl
      · rintro Hc ⟨h1, sm⟩
        rw [List.length_map, List.take_length] at h1
        refine ⟨D, _, rfl, SqL.of h1, _, rfl, ?_⟩
        have e : (bs.map fun b => decide (b ∈ keys tb)).all id = false := by
          rw [List.all_map, List.all_eq_false]
          obtain ⟨b, hb1, hb2⟩ := hb
          exact ⟨b, hb1, by simp [hb2]⟩
        rw [e]
        exact iteT (k Hc (s12.trans sm))
end
end K2
end
section
set_option Elab.async false
set_option maxRecDepth 100000
set_option linter.all false
namespace K2
open PySem L2
theorem _root_.L2.FnOk.or {P : Program} {w : World} {K : PySem.W.Frag} {mg : Str → Option Value} {base : Heap} {CX : CXT} {k : Nat} {f : Addr} {fd : FuncData} {ps : List Str} {sp sp' : Sp} (F : FnOk P w K mg base CX k f fd ps sp) (G : FnOk P w K mg base CX k f fd ps sp') :
    FnOk P w K mg base CX k f fd ps (fun vs H Q E => sp vs H Q E ∨ sp' vs H Q E) :=
  ⟨fun vs H Q E q => q.elim (F.len vs H Q E) (G.len vs H Q E), fun A outer s H args us vs Q E hr he hb hv hs => hs.elim (F.run A outer s H args us vs Q E hr he hb hv) (G.run A outer s H args us vs Q E hr he hb hv)⟩
theorem WdAll.same {K : PySem.W.Frag} {H H' : Hp} {xs : List V} {bs : List Bool} (h : WdAll K H xs bs) (s : Same H H') : WdAll K H' xs bs := ⟨h.1, fun i x b h1 h2 => (h.2 i x b h1 h2).same s⟩
theorem FaultV.same {K : PySem.W.Frag} {H H' : Hp} {nm : List Str} {v : V} {n : Nat} {r : Str} (h : FaultV K H nm v n r) (s : Same H H') : FaultV K H' nm v n r := by
  cases h with
  | many v => exact .many v
  | row1 hn ty k => exact .row1 hn (ty.same s) k
  | row2 hn h l => exact .row2 hn (s _ _ h) l
  | row3 hn h l l2 wd no => exact .row3 hn (s _ _ h) l l2 (wd.same s) no
  | name hn h l l2 vw hx => exact .name hn (s _ _ h) l l2 vw hx
  | base hn h l l2 vw hx hb => exact .base hn (s _ _ h) l l2 vw hx hb
def ncF (r : Str) (n : Nat) : List (Str × V) := [("place", .int n), ("reason", .str r)]
/-- rows of which the first with a fault stands behind good ones -/
structure Bad (K : PySem.W.Frag) (H : Hp) (xs : List V) (rs : List Row) (r : Str) : Prop where
  g : Good rs
  l : rs.length ≤ 30
  ex : ∃ (ts : List Addr) (v : V) (more : List V), xs = ts.map V.ref ++ v :: more ∧ RowsAt H ts rs ∧ FaultV K H (keys (ups rs)) v rs.length r
theorem Bad.same {K : PySem.W.Frag} {H H' : Hp} {xs : List V} {rs : List Row} {r : Str} (h : Bad K H xs rs r) (s : Same H H') : Bad K H' xs rs r := by
  obtain ⟨ts, v, more, e, R, F⟩ := h.ex
  exact ⟨h.g, h.l, ts, v, more, e, R.mono fun b r e => s b _ e, F.same s⟩
def spInitX (K : PySem.W.Frag) (C CN : Addr) : Sp := fun vs H Q E => ∃ (p dx rt : Addr) (xs : List V) (rs : List Row) (r : Str), vs = [.ref p, .ref rt] ∧ H p = some (.ins C dx []) ∧ H rt = some (.tup xs) ∧ Bad K H xs rs r ∧
  ∀ (d : Addr) (H' : Hp), Same H H' → H' d = some (.xd (ncF r rs.length)) → E (.ref CN) (some d) H'
section
variable {P : Program} {w : World} {K : PySem.W.Frag} {mg : Str → Option Value} {base : Heap}
theorem ok_initX {f C fF fL CN fI : Addr} {fd fdF fdL fdI : FuncData} (F : Fun K "__init__" "Classes.__init__" sInit f fd) (X : Txt K mg C) (T : Bi mg) (FA : Df K mg "_fault" sFault fF fdF ["row", "k", "lines"]) (GF1 : FnOk P w K mg base CX0 3 fF fdF ["row", "k", "lines"] spFault) (GF2 : FnOk P w K mg base CX0 3 fF fdF ["row", "k", "lines"] (spFaultX K))
    (LI : Df K mg "_line" sLine fL fdL ["row", "lines"]) (GL : FnOk P w K mg base CX0 1 fL fdL ["row", "lines"] spLine)
    (M : NC K mg CN fI) (GI : FnOk P w K mg base CX0 1 fI fdI ["self", "reason", "place"] (spNCI CN)) (bI : Binds K fdI ["self", "reason", "place"] []) :
    FnR P w K mg base (L2.CX P w) 4 f (fun vs H Q E => ∃ ws rest, vs = ws ++ rest ∧ ws.length = 1 ∧ rest.length ≤ sizeLine ∧ ∀ p, H p = none → spInitX K C CN (ws ++ [V.ref p]) (upd H p (.tup rest)) Q E) := by
  have GF := GF1.or GF2
  obtain ⟨oc, od, kV, doc, pm, an, cdv, ct, osl, rfl, lk, hcd⟩ := F.ex
  refine StX.fn_star (ps := ["self"]) (pv := "rows") lk hcd scInit StX.cxUp (init_bind kV doc pm an cdv ct) fun A outer s H vs Q E hr h => ?_
  obtain ⟨p, dx, rt, xs, rs, r, rfl, hp, ht, BD, kE⟩ := h
  obtain ⟨g, h30, ts, bad, more, rfl, R, FV⟩ := BD
  have hr2 : Room 3 _ := hr
  have hr22 : Room 2 _ := hr.mono (by decide)
  have hr0 : Room 1 _ := hr.mono (by decide)
  have hu := hu_of hr
  refine ⟨_, (pss_cons (ps_set (i := 2) scInit.nd rfl (Or.inl rfl) (pe_disp (pps_cons pe_str (pe_disp (pps_cons pe_str pe_bl pps_nil) (by rfl) (by rfl) (fun z => by cases z) (by decide)) (pps_cons pe_str (pe_disp (pps_cons pe_str pe_bl (pps_cons pe_str pe_bl pps_nil)) (by rfl) (by rfl) (fun z => by cases z) (by decide)) pps_nil)) (by rfl) (by rfl) (fun z => by cases z) (by decide)))
      (pss_cons (ps_for (passes_of rfl) rfl (pi_enumT (by rfl) T.enumerate (pa_cons (pv 1) pa_nil)) (pg_tup rfl (pgs_cons (pg_name (i := 3) scInit.nd rfl (Or.inl rfl)) (pgs_cons (pg_name (i := 4) scInit.nd rfl (Or.inl rfl)) pgs_nil)))
      (pss_cons (ps_set (i := 5) scInit.nd rfl (Or.inl rfl) (pe_call GF hr2 (by rfl) FA.m FA.F.kp FA.b .nil pass0 (pa_cons (pv 4) (pa_cons (pv 3) (pa_cons (pv 2) pa_nil)))))
        (pss_cons (ps_if (pt_cmpR op_notN (pv 5) pe_non (nomark _))
        (pss_one (ps_raise rfl (takes_of rfl rfl rfl rfl) (pmk_oex M.oex M.iC M.tI GI hr22 bI .nil pass0 (by rfl) M.gC (pa_cons (pv 5) (pa_cons (pv 3) pa_nil)))))
        pss_nil)
        (pss_one (ps_dput hu (pv 2) (pe_ix ix_tup (pv 4) pe_int (fun _ _ => rfl)) (pe_call GL hr0 (by rfl) LI.m LI.F.kp LI.b .nil pass0 (pa_cons (pv 4) (pa_cons (pv 2) pa_nil))) rfl)))))
      (pss_cons (ps_fld (pv 0) (pv 1) rfl)
      (pss_cons (ps_fld (pv 0) (pe_callTy call_tuple_of (by rfl) T.tuple (by decide +kernel) (pa_cons (pe_callTy (call_list_dK rfl) (by rfl) T.list (by decide +kernel) (pa_cons (pv 2) pa_nil)) pa_nil)) rfl)
      (pss_one (ps_fld (pv 0) (pv 2) rfl)))))), ?_⟩
  refine fun d hd d1 hd1 => ⟨upd_same, [((Sum.inr (Str.ofString "error") : Key), V.bl true)], rfl, (by show 1 ≤ 15; decide), fun d2 hd2 => ?_⟩
  rw [merge1, upd_upd] at hd2 ⊢
  refine ⟨upd_same, [((Sum.inr (Str.ofString "vacant") : Key), V.bl true), ((Sum.inr (Str.ofString "error") : Key), V.bl true)], rfl, (by show 2 ≤ 15; decide), ?_⟩
  rw [merge2', upd_upd]
  have n01 : d ≠ d1 := fun e => by rw [← e, upd_same] at hd1; cases hd1
  have n12 : d1 ≠ d2 := fun e => by rw [← e, upd_same] at hd2; cases hd2
  have n02 : d ≠ d2 := fun e => by rw [← e, upd_ne n01, upd_same] at hd2; cases hd2
  have hd1H : H d1 = none := by rw [upd_ne n01.symm] at hd1; exact hd1
  have hd2H : H d2 = none := by rw [upd_ne n12.symm, upd_ne n02.symm] at hd2; exact hd2
  refine ⟨by rw [upd_ne n02, upd_ne n01, upd_same], [((Sum.inr (Str.ofString "error") : Key), V.ref d1), ((Sum.inr (Str.ofString "vacant") : Key), V.ref d2)], rfl, (by show 2 ≤ 15; decide), ?_⟩
  rw [merge2]
  have facts : ∀ H0, H0 = upd (upd (upd (upd H d (.dK [])) d1 (.dK [((Sum.inr (Str.ofString "error") : Key), V.bl true)])) d2 (.dK [((Sum.inr (Str.ofString "vacant") : Key), V.bl true), ((Sum.inr (Str.ofString "error") : Key), V.bl true)])) d
      (.dK [((Sum.inr (Str.ofString "error") : Key), V.ref d1), ((Sum.inr (Str.ofString "vacant") : Key), V.ref d2)]) → Same H H0 ∧ H0 d = some (.dK [((Sum.inr (Str.ofString "error") : Key), V.ref d1), ((Sum.inr (Str.ofString "vacant") : Key), V.ref d2)]) ∧
      Tab fD H0 [((Sum.inr (Str.ofString "error") : Key), V.ref d1), ((Sum.inr (Str.ofString "vacant") : Key), V.ref d2)] t0 := fun H0 e => by
    subst e
    refine ⟨((((Same.refl H).put hd).put hd1H).put hd2H).put hd, upd_same, .cons ?_ (.cons ?_ .nil)⟩
    · rw [upd_ne n01.symm, upd_ne n12, upd_same]
      rfl
    · rw [upd_ne n02.symm, upd_same]
      rfl
  generalize hH0 : upd (upd (upd (upd H d (.dK [])) d1 (.dK [((Sum.inr (Str.ofString "error") : Key), V.bl true)])) d2 (.dK [((Sum.inr (Str.ofString "vacant") : Key), V.bl true), ((Sum.inr (Str.ofString "error") : Key), V.bl true)])) d
      (.dK [((Sum.inr (Str.ofString "error") : Key), V.ref d1), ((Sum.inr (Str.ofString "vacant") : Key), V.ref d2)]) = H0
  obtain ⟨sm0, hd0, T0⟩ := facts H0 hH0.symm
  have tl : (ts.map V.ref).length = rs.length := by rw [List.length_map, R.1]
  refine ⟨_, rfl, rt, _, rfl, sm0 rt _ ht, for_it (walk_enumT rt (ts.map V.ref ++ bad :: more)) (fun i σ Hc => i ≤ rs.length ∧ ∃ (kvs : List (Key × V)) (v3 v4 v5 : Option V), σ = [some (.ref p), some (.ref rt), some (.ref d), v3, v4, v5] ∧ Hc d = some (.dK kvs) ∧ Tab fD Hc kvs (ups (rs.take i)) ∧ Same H Hc ∧ ∀ y a, (y, V.ref a) ∈ kvs → a ≠ d) ?_ ?_ ?_ ?_⟩
  · refine ⟨Nat.zero_le _, _, _, _, _, rfl, hd0, T0, sm0, fun y a hya => ?_⟩
    simp only [List.mem_cons, List.not_mem_nil, or_false, Prod.mk.injEq, V.ref.injEq] at hya
    rcases hya with ⟨_, rfl⟩ | ⟨_, rfl⟩
    · exact n01.symm
    · exact n02.symm
  · rintro i σ Hc _ ⟨_, kvs, v3, v4, v5, rfl, _, _, sm, _⟩
    exact sm rt _ ht
  · rintro i y σ Hc Hy _ ⟨hin, kvs, v3, v4, v5, rfl, hD, TB, sm, hav⟩ ⟨T9, x, rfl, hT9, rfl, hx⟩
    by_cases hi : i < rs.length
    · have hti : ts[i]? = some (ts[i]'(by rw [R.1]; exact hi)) := List.getElem?_eq_getElem _
      rw [List.getElem?_append_left (by rw [tl]; exact hi), List.getElem?_map, hti] at hx
      generalize ts[i]'(by rw [R.1]; exact hi) = t at hti hx
      cases hx
      have hri : rs[i]? = some rs[i] := List.getElem?_eq_getElem hi
      have htH := sm t _ (R.2 i t _ hti hri)
      have RO := g i _ hri
      have TO := tok_ups g i (Nat.le_of_lt hi)
      have hks := keys_ups_take rs i
      have hus := ups_succ hri
      have hkl := knownAt_len (Nat.le_of_lt hi)
      have hvw := g.vw_known i
      generalize rs[i] = r at hri htH RO hus
      rw [← hks] at RO hkl hvw
      generalize ups (rs.take i) = tb at TB TO hks hus RO hkl hvw
      have htl2 : tb.length = (keys tb).length := by simp [keys]
      have s9 : Same Hc (upd Hc T9 (.tup [V.int (i : Nat), V.ref t])) := (Same.refl Hc).put hT9
      refine ⟨T9, _, rfl, SqT.of upd_same, rfl, _, _, rfl, _, _, rfl, rfl, ?_⟩
      have TB9 : ∀ {H2 : Hp}, Same Hc H2 → Tab fD H2 kvs tb := fun s => TB.mono fun a us e => s a _ e
      refine ⟨_, rfl, _, rfl, _, rfl, .inl ⟨t, d, i, r, kvs, tb, rfl, by omega, s9 t _ htH, s9 d _ hD, TB9 s9, TO, RO, fun x hx => hvw x (RO.sub x hx), by omega, fun H2 s2 => ?_⟩⟩
      refine ⟨_, rfl, rfl, _, rfl, iteNS rfl ?_⟩
      have s92 := s9.trans s2
      refine ⟨_, rfl, _, rfl, t, d, r, kvs, tb, rfl, s92 t _ htH, s92 d _ hD, TB9 s92, TO, RO, by omega, fun m H3 hmf hm s3 => ?_⟩
      have s93 := s92.trans s3
      have hD3 := s93 d _ hD
      have ht3 := s93 t _ htH
      obtain ⟨x, bs⟩ := r
      unfold rowO at ht3
      refine ⟨_, rfl, _, rfl, t, _, _, _, rfl, rfl, SqT.of ht3, atI_nat (j := 0) rfl, d, _, rfl, DPut.k (k := Sum.inr x) hD3 ?_, ?_⟩
      · rw [TB.len, htl2]; show _ < 16777216; omega
      rw [putK_new _ (TB.none RO.new)]
      have hmd : m ≠ d := (ne_of_none (s92 d _ hD) hmf).symm
      refine ⟨by omega, _, _, _, _, rfl, upd_same, ?_, (sm.trans s93).put hd, fun y a hya => ?_⟩
      · rw [hus]
        refine Tab.snoc ((TB9 s93).monoM fun a us ⟨y, hy⟩ e => by rw [upd_ne (hav y a hy)]; exact e) ?_
        rw [upd_ne hmd]
        exact hm
      · rcases List.mem_append.mp hya with hya | hya
        · exact hav y a hya
        · simp only [List.mem_cons, List.not_mem_nil, or_false, Prod.mk.injEq, V.ref.injEq] at hya
          rw [hya.2]
          exact hmd
    · obtain rfl : i = rs.length := by omega
      rw [List.getElem?_append_right (by omega), tl, Nat.sub_self] at hx
      cases hx
      rw [List.take_length] at TB
      have s9 : Same Hc (upd Hc T9 (.tup [V.int ((rs.length : Nat) : Int), bad])) := (Same.refl Hc).put hT9
      refine ⟨T9, _, rfl, SqT.of upd_same, rfl, _, _, rfl, _, _, rfl, rfl, ?_⟩
      refine ⟨_, rfl, _, rfl, _, rfl, .inr ⟨bad, d, rs.length, r, kvs, ups rs, rfl, s9 d _ hD, TB.mono fun a us e => s9 a _ e, FV.same (sm.trans s9), fun H2 s2 => ?_⟩⟩
      have s92 := sm.trans (s9.trans s2)
      refine ⟨_, rfl, rfl, _, rfl, ite2 (fun _ => ?_) fun h => absurd (by rw [decide_eq_false (by intro e; cases e)]; rfl) h⟩
      refine ⟨_, rfl, _, rfl, (by show 2 ≤ 1000; decide), fun a ha => ⟨a, _, _, rfl, upd_same, fun d3 H' hd3 hne e1 e2 k => ?_⟩⟩
      rw [upd_ne hne] at hd3
      refine ⟨rfl, d3, _, e1, e2, hd3, kE d3 _ (fun b o hb => ?_) upd_same⟩
      have hb2 := s92 b _ hb
      have n1 := ne_of_none hb2 hd3
      have n2 := ne_of_none hb2 ha
      rw [upd_ne n1, del_ne n2]
      exact k b o (by rw [upd_ne n2]; exact hb2) n2
  · rintro σ Hc ⟨hle, _⟩
    rw [List.length_append, tl, List.length_cons] at hle
    omega
end
end K2
end
section
set_option Elab.async false
set_option maxRecDepth 100000
set_option linter.all false
namespace K2
open PySem L2
def spInitXR (K : PySem.W.Frag) (C CN : Addr) : Sp := fun vs H Q E => ∃ ws rest, vs = ws ++ rest ∧ ws.length = 1 ∧ rest.length ≤ sizeLine ∧ ∀ p, H p = none → spInitX K C CN (ws ++ [V.ref p]) (upd H p (.tup rest)) Q E
theorem initRX {K : PySem.W.Frag} {C CN : Addr} {H : Hp} {xs : List V} {rs : List Row} {r : Str} {Q : VK} {E : XK} (B : Bad K H xs rs r) (l : xs.length ≤ 1000) (k : ∀ (d : Addr) (H' : Hp), Same H H' → H' d = some (.xd (ncF r rs.length)) → E (.ref CN) (some d) H') :
    ∀ x dx, H x = none → H dx = none → dx ≠ x → spInitXR K C CN (V.ref x :: xs) (upd (upd H dx (.own x)) x (.ins C dx [])) (fun v H2 => v = .non ∧ Q (.ref x) H2) E := by
  intro x dx nx ndx ne
  refine ⟨[V.ref x], _, rfl, rfl, ?_, fun pt hpt => ?_⟩
  · show _ ≤ 16777216; omega
  have s1 : Same H (upd (upd H dx (.own x)) x (.ins C dx [])) := ((Same.refl H).put ndx).put nx
  have s2 : Same H (upd (upd (upd H dx (.own x)) x (.ins C dx [])) pt (.tup xs)) := s1.put (s1.free hpt)
  exact ⟨x, dx, pt, xs, rs, r, rfl, by rw [upd_ne (ne_of_none upd_same hpt), upd_same], upd_same, B.same s2, fun d H' s e => k d H' (s2.trans s) e⟩
/-- the first bad one of some rows behind those that stand -/
structure Bad2 (K : PySem.W.Frag) (H : Hp) (xs : List V) (rs qs : List Row) (r : Str) : Prop where
  g : Good (rs ++ qs)
  l : (rs ++ qs).length ≤ 30
  ex : ∃ (ts : List Addr) (v : V) (more : List V), xs = ts.map V.ref ++ v :: more ∧ RowsAt H ts qs ∧ FaultV K H (keys (ups (rs ++ qs))) v (rs ++ qs).length r
theorem Bad2.same {K : PySem.W.Frag} {H H' : Hp} {xs : List V} {rs qs : List Row} {r : Str} (h : Bad2 K H xs rs qs r) (s : Same H H') : Bad2 K H' xs rs qs r := by
  obtain ⟨ts, v, more, e, R, F⟩ := h.ex
  exact ⟨h.g, h.l, ts, v, more, e, R.mono fun b r e => s b _ e, F.same s⟩
def spWRX (K : PySem.W.Frag) (C CN : Addr) : Sp := fun vs H Q E => ∃ (p t : Addr) (rs qs : List Row) (xs : List V) (r : Str), vs = [.ref p, .ref t] ∧ ClsW C H p rs ∧ H t = some (.tup xs) ∧ xs.length ≤ 500 ∧ Bad2 K H xs rs qs r ∧
  ∀ (d : Addr) (H' : Hp), Same H H' → H' d = some (.xd (ncF r (rs ++ qs).length)) → E (.ref CN) (some d) H'
def spWRXr (K : PySem.W.Frag) (C CN : Addr) : Sp := fun vs H Q E => ∃ ws rest, vs = ws ++ rest ∧ ws.length = 1 ∧ rest.length ≤ sizeLine ∧ ∀ p, H p = none → spWRX K C CN (ws ++ [V.ref p]) (upd H p (.tup rest)) Q E
section
variable {P : Program} {w : World} {K : PySem.W.Frag} {mg : Str → Option Value} {base : Heap}
theorem ok_wrX {f C CN fI : Addr} {fd : FuncData} (F : Fun K "with_rows" "Classes.with_rows" sWR f fd) (Y : Txt K mg C) (M : Mk K C fI) (GI : FnR P w K mg base (L2.CX P w) 4 fI (spInitXR K C CN)) : FnR P w K mg base (L2.CX P w) 6 f (spWRXr K C CN) := by
  obtain ⟨oc, od, kV, doc, pm, an, cdv, ct, osl, rfl, lk, hcd⟩ := F.ex
  refine StX.fn_star (ps := ["self"]) (pv := "rows") lk hcd scWR StX.cxUp (wr_bind kV doc pm an cdv ct) fun A outer s H vs Q E hr h => ?_
  obtain ⟨p, t, rs, qs, xs, r, rfl, cw, ht, hl, B, k⟩ := h
  refine ⟨_, pss_cons (ps_set (i := 2) scWR.nd rfl (Or.inl rfl) (pe_op op_cat2 (pe_fld (pv 0) rfl) (pv 1))) (pss_one (ps_ret (pe_makeSG M GI hr (by rfl) Y.mgC (passes_call (takes_of rfl rfl rfl rfl) fun _ _ _ _ h => h) (pv 2)))), ?_⟩
  obtain ⟨dx, r1, n, l, kvs, ts1, h1, _, _, _, h5, h6⟩ := cw
  have hlen := B.l
  rw [List.length_append] at hlen
  refine ⟨_, rfl, p, C, dx, _, _, rfl, h1, Y.cl, Y.nR, flds_rows _ _ _, _, rfl, r1, t, _, _, rfl, rfl, h5, ht, ?_, fun b H1 s1 hb => ?_⟩
  · rw [List.length_map, h6.1]; show _ ≤ 16777216; omega
  refine ⟨_, rfl, b, _, rfl, .inl (SqT.of hb), ?_⟩
  obtain ⟨ts, v, more, rfl, R, FV⟩ := B.ex
  refine initRX ⟨B.g, B.l, ts1 ++ ts, v, more, by rw [List.map_append, List.append_assoc], (h6.app R).mono fun q r e => s1 q _ e, FV.same s1⟩ ?_ fun d H' s e => k d H' (s1.trans s) e
  rw [List.length_append, List.length_map, h6.1]
  omega
def spMadeX (K : PySem.W.Frag) (C CN : Addr) : Sp := fun vs H Q E => ∃ (l : Addr) (xs : List V) (rs : List Row) (r : Str), vs = [.ref C, .ref l] ∧ H l = some (.lst xs) ∧ xs.length ≤ 500 ∧ Bad K H xs rs r ∧
  ∀ (d : Addr) (H' : Hp), Same H H' → H' d = some (.xd (ncF r rs.length)) → E (.ref CN) (some d) H'
theorem ok_madeX {f fI C CN : Addr} {fd : FuncData} (F : Fun K "made" "Classes.made" sMade f fd) (M : Mk K C fI) (GI : FnR P w K mg base (L2.CX P w) 4 fI (spInitXR K C CN)) : FnOk P w K mg base (L2.CX P w) 6 f fd ["cls", "rows"] (spMadeX K C CN) := by
  refine F.okX scMade (fun vs H Q E h => ?_) (fun cdv A outer s H vs Q E hr h => ?_)
  · obtain ⟨l, xs, rs, r, rfl, _⟩ := h
    rfl
  · obtain ⟨l, xs, rs, r, rfl, hl, hx, B, k⟩ := h
    refine ⟨_, pss_one (ps_ret (pe_makeL (i := 0) M GI hr rfl (Or.inl rfl) (passes_call (takes_of rfl rfl rfl rfl) fun _ _ _ _ h => h) (pv 1))), ?_⟩
    exact ⟨rfl, _, rfl, l, _, rfl, .inr (SqL.of hl), initRX B (by omega) k⟩
end
end K2
end
section
set_option Elab.async false
set_option maxRecDepth 100000
set_option linter.all false
namespace K2
open PySem L2
abbrev sFresh : Stmt := top 39
abbrev nFresh : List Str := ["_law_names", "_law_some", "_law_one", "_law_word"]
def vowels : List Nat := [97, 101, 105, 111, 117, 121]
theorem vow_at (i : Nat) : vowels[i]? = (Str.ofString "aeiouy").cps[i]? := by
  have e : (Str.ofString "aeiouy").cps = vowels.toArray := by decide +kernel
  rw [e]
  simp
def mkW (a b : Str) : List Str := vowels.map fun c => a ++ (⟨#[c]⟩ : Str) ++ b
def cands : List Str := mkW (Str.ofString "k") (Str.ofString "bd") ++ mkW (Str.ofString "m") (Str.ofString "fg") ++ mkW (Str.ofString "p") (Str.ofString "hj")
theorem slen (x y : Str) : (x ++ y).length = x.length + y.length := by
  show (x.cps ++ y.cps).size = _
  rw [Array.size_append]
  rfl
theorem cands_ok : ∀ x ∈ cands, codes x ≠ [] ∧ (codes x).length ≤ 8 ∧ x ∉ resd ∧ (∀ c ∈ codes x, 97 ≤ c ∧ c ≤ 122) ∧ x ∉ base0 := by decide +kernel
theorem cands_vw {x : Str} (h : x ∈ cands) : VW x := by
  obtain ⟨a, b, c, d, _⟩ := cands_ok x h
  exact ⟨d, a, b, c⟩
theorem cands_nd : cands.Nodup := by decide +kernel
theorem cands_len : cands.length = 18 := by decide +kernel
/-- words that are not among nm -/
def freshL (nm : List Str) : List Str := cands.filter fun x => decide (x ∉ nm)
theorem fresh_len {nm : List Str} (h : nm.length ≤ 6) : 12 ≤ (freshL nm).length := by
  have e : (cands.filter fun x => decide (x ∈ nm)).length ≤ nm.length := (show (cands.filter fun x => decide (x ∈ nm)).Nodup from cands_nd.filter _).length_le_of_subset fun x hx => of_decide_eq_true (List.mem_filter.mp hx).2
  have e2 : (cands.filter fun x => decide (x ∈ nm)).length + (freshL nm).length = 18 := by
    rw [← cands_len]
    unfold freshL
    rw [← List.countP_eq_length_filter, ← List.countP_eq_length_filter]
    have := List.length_eq_countP_add_countP (p := fun x => decide (x ∈ nm)) (l := cands)
    rw [this]
    congr 1
    apply List.countP_congr
    intro x _
    simp
  omega
theorem fresh_nd (nm : List Str) : (freshL nm).Nodup := cands_nd.filter _
theorem fresh_mem {nm : List Str} {x : Str} (h : x ∈ freshL nm) : x ∉ nm ∧ VW x := ⟨of_decide_eq_true (List.mem_filter.mp h).2, cands_vw (List.mem_filter.mp h).1⟩
def spFresh : Sp := fun vs H Q _ => ∃ (l : Addr) (nm : List Str), vs = [.ref l] ∧ H l = some (.lst (nm.map V.str)) ∧
  ∀ (r : Addr) (H' : Hp), H r = none → H' r = some (.lst ((freshL nm).map V.str)) → Same H H' → Q (.ref r) H'
section
variable {P : Program} {w : World} {K : PySem.W.Frag} {mg : Str → Option Value} {base : Heap}
theorem scFresh : FnScope nFresh ["_law_names"] (defScope sFresh) := ⟨rfl, rfl, rfl, by decide +kernel, rfl, by decide +kernel, by decide +kernel⟩
theorem ok_fresh {f : Addr} {fd : FuncData} (F : Fun K "_law_fresh" "_law_fresh" sFresh f fd) : FnOk P w K mg base CX0 1 f fd ["_law_names"] spFresh := by
  refine F.ok scFresh (fun vs H Q E h => ?_) (fun cdv A outer s H vs Q E hr h => ?_)
  · obtain ⟨l, nm, rfl, _⟩ := h
    rfl
  · obtain ⟨l, nm, rfl, hl, k⟩ := h
    refine ⟨_, (pss_cons (ps_set (i := 1) scFresh.nd rfl (Or.inl rfl) (pe_op op_cat (pe_lc (own := [("_law_one", 2)]) (g := gName 2) (tt := tYes) rfl scFresh.nd (pi_str pe_str) (blkOk_by (N := nFresh) (sc := defScope sFresh) (by decide +kernel)) (fun _ _ _ _ _ => pg_name (i := 2) scFresh.nd rfl (Or.inl rfl)) (fun _ _ _ _ _ => pts_nil) (fun _ _ _ _ _ => pe_op op_add_str (pe_op op_add_str pe_str (pv 2)) pe_str)) (pe_lc (own := [("_law_one", 2)]) (g := gName 2) (tt := tYes) rfl scFresh.nd (pi_str pe_str) (blkOk_by (N := nFresh) (sc := defScope sFresh) (by decide +kernel)) (fun _ _ _ _ _ => pg_name (i := 2) scFresh.nd rfl (Or.inl rfl)) (fun _ _ _ _ _ => pts_nil) (fun _ _ _ _ _ => pe_op op_add_str (pe_op op_add_str pe_str (pv 2)) pe_str))))
      (pss_cons (ps_set (i := 1) scFresh.nd rfl (Or.inl rfl) (pe_op op_cat (pv 1) (pe_lc (own := [("_law_one", 2)]) (g := gName 2) (tt := tYes) rfl scFresh.nd (pi_str pe_str) (blkOk_by (N := nFresh) (sc := defScope sFresh) (by decide +kernel)) (fun _ _ _ _ _ => pg_name (i := 2) scFresh.nd rfl (Or.inl rfl)) (fun _ _ _ _ _ => pts_nil) (fun _ _ _ _ _ => pe_op op_add_str (pe_op op_add_str pe_str (pv 2)) pe_str))))
      (pss_one (ps_ret (pe_lc (own := [("_law_word", 3)]) (g := gName 3)  rfl scFresh.nd (pi_list (pv 1)) (blkOk_by (N := nFresh) (sc := defScope sFresh) (by decide +kernel)) (fun _ _ _ _ _ => pg_name (i := 3) scFresh.nd rfl (Or.inl rfl)) (fun _ _ _ _ _ => pts_one (pt_cmpR (op_notIn_seqK (K' := K) rfl) (pv 3) (pv 0) rfl)) (fun _ _ _ _ _ => pv 3)))))), ?_⟩
    refine ⟨_, rfl, fun D1 hD1 => ?_⟩
    refine lc_it walk_str (fun i Hc => Hc D1 = some (.lst (((vowels.take i).map fun c => Str.ofString "k" ++ (⟨#[c]⟩ : Str) ++ Str.ofString "bd").map V.str)) ∧ Same H Hc) ?_ (fun _ _ _ _ => trivial) ?_ ?_
    · exact ⟨upd_same, (Same.refl H).put hD1⟩
    · rintro i y Hc _ hi ⟨h1, sm⟩ ⟨rfl, c, hc, rfl⟩
      have hi : i < 6 := hi
      have hc : vowels[i]? = some c := by rw [← hc]; exact vow_at i
      refine ⟨rfl, _, rfl, _, _, rfl, rfl, (by show 1 + 1 ≤ 16777216; decide), _, _, rfl, rfl, ?_, _, h1, ?_, ?_, sm.put hD1⟩
      · rw [slen]; show 1 + 1 + 2 ≤ 16777216; decide
      · rw [List.length_map, List.length_map, List.length_take]; show _ < 16777216; omega
      · rw [upd_same, List.take_add_one, hc, List.map_append, List.map_append]
        rfl
    rintro H1 ⟨g1, s1⟩
    rw [show (Str.ofString "aeiouy").cps.size = vowels.length from rfl, List.take_length] at g1
    refine ⟨_, rfl, fun D2 hD2 => ?_⟩
    refine lc_it walk_str (fun i Hc => Hc D2 = some (.lst (((vowels.take i).map fun c => Str.ofString "m" ++ (⟨#[c]⟩ : Str) ++ Str.ofString "fg").map V.str)) ∧ Same H1 Hc) ?_ (fun _ _ _ _ => trivial) ?_ ?_
    · exact ⟨upd_same, (Same.refl H1).put hD2⟩
    · rintro i y Hc _ hi ⟨h1, sm⟩ ⟨rfl, c, hc, rfl⟩
      have hi : i < 6 := hi
      have hc : vowels[i]? = some c := by rw [← hc]; exact vow_at i
      refine ⟨rfl, _, rfl, _, _, rfl, rfl, (by show 1 + 1 ≤ 16777216; decide), _, _, rfl, rfl, ?_, _, h1, ?_, ?_, sm.put hD2⟩
      · rw [slen]; show 1 + 1 + 2 ≤ 16777216; decide
      · rw [List.length_map, List.length_map, List.length_take]; show _ < 16777216; omega
      · rw [upd_same, List.take_add_one, hc, List.map_append, List.map_append]
        rfl
    rintro H2 ⟨g2, s2⟩
    rw [show (Str.ofString "aeiouy").cps.size = vowels.length from rfl, List.take_length] at g2
    refine ⟨D1, D2, _, _, rfl, rfl, s2 _ _ g1, g2, by rw [List.length_map, List.length_map, List.length_map, List.length_map]; show 6 + 6 ≤ 16777216; decide, fun l1 hl1 => ?_⟩
    have s3 : Same H2 (upd H2 l1 (.lst ((List.map V.str (mkW (Str.ofString "k") (Str.ofString "bd"))) ++ (List.map V.str (mkW (Str.ofString "m") (Str.ofString "fg")))))) := (Same.refl H2).put hl1
    have e3 : (upd H2 l1 (.lst ((List.map V.str (mkW (Str.ofString "k") (Str.ofString "bd"))) ++ (List.map V.str (mkW (Str.ofString "m") (Str.ofString "fg")))))) l1 = some (.lst ((List.map V.str (mkW (Str.ofString "k") (Str.ofString "bd"))) ++ (List.map V.str (mkW (Str.ofString "m") (Str.ofString "fg"))))) := upd_same
    have gen : ∀ H3 : Hp, Same H2 H3 → H3 l1 = some (.lst ((List.map V.str (mkW (Str.ofString "k") (Str.ofString "bd"))) ++ (List.map V.str (mkW (Str.ofString "m") (Str.ofString "fg"))))) → True := fun _ _ _ => trivial
    generalize hH3 : upd H2 l1 (.lst ((List.map V.str (mkW (Str.ofString "k") (Str.ofString "bd"))) ++ (List.map V.str (mkW (Str.ofString "m") (Str.ofString "fg"))))) = H3 at s3 e3
    refine ⟨_, rfl, ?_⟩
    show (_ : Prop)
    rw [show upd H2 l1 (.lst (List.map V.str (List.map (fun c => Str.ofString "k" ++ (⟨#[c]⟩ : Str) ++ Str.ofString "bd") vowels) ++ List.map V.str (List.map (fun c => Str.ofString "m" ++ (⟨#[c]⟩ : Str) ++ Str.ofString "fg") vowels))) = H3 from hH3]
    refine ⟨_, rfl, fun D3 hD3 => ?_⟩
    refine lc_it walk_str (fun i Hc => Hc D3 = some (.lst (((vowels.take i).map fun c => Str.ofString "p" ++ (⟨#[c]⟩ : Str) ++ Str.ofString "hj").map V.str)) ∧ Same H3 Hc) ?_ (fun _ _ _ _ => trivial) ?_ ?_
    · exact ⟨upd_same, (Same.refl H3).put hD3⟩
    · rintro i y Hc _ hi ⟨h1, sm⟩ ⟨rfl, c, hc, rfl⟩
      have hi : i < 6 := hi
      have hc : vowels[i]? = some c := by rw [← hc]; exact vow_at i
      refine ⟨rfl, _, rfl, _, _, rfl, rfl, (by show 1 + 1 ≤ 16777216; decide), _, _, rfl, rfl, ?_, _, h1, ?_, ?_, sm.put hD3⟩
      · rw [slen]; show 1 + 1 + 2 ≤ 16777216; decide
      · rw [List.length_map, List.length_map, List.length_take]; show _ < 16777216; omega
      · rw [upd_same, List.take_add_one, hc, List.map_append, List.map_append]
        rfl
    rintro H4 ⟨g4, s4⟩
    rw [show (Str.ofString "aeiouy").cps.size = vowels.length from rfl, List.take_length] at g4
    refine ⟨l1, D3, _, _, rfl, rfl, s4 _ _ e3, g4, by rw [List.length_append, List.length_map, List.length_map, List.length_map, List.length_map]; show 6 + 6 + 6 ≤ 16777216; decide, fun l2 hl2 => ?_⟩
    have ec : (List.map V.str (mkW (Str.ofString "k") (Str.ofString "bd")) ++ List.map V.str (mkW (Str.ofString "m") (Str.ofString "fg"))) ++ List.map V.str (List.map (fun c => Str.ofString "p" ++ (⟨#[c]⟩ : Str) ++ Str.ofString "hj") vowels) = cands.map V.str := by
      unfold cands
      rw [List.map_append, List.map_append]
      rfl
    rw [ec]
    have s5 : Same H4 (upd H4 l2 (.lst (cands.map V.str))) := (Same.refl H4).put hl2
    have e5 : (upd H4 l2 (.lst (cands.map V.str))) l2 = some (.lst (cands.map V.str)) := upd_same
    generalize upd H4 l2 (.lst (cands.map V.str)) = H5 at s5 e5 ⊢
    have sH : Same H H5 := ((s1.trans s2).trans (s3.trans s4)).trans s5
    refine ⟨_, rfl, l2, rfl, ⟨_, SqL.of e5⟩, fun D hD => ?_⟩
    have hl5 := sH _ _ hl
    refine lc_list (K := K) (a := l2) (xs := cands.map V.str) (fun i Hx => Hx D = some (.lst (((cands.take i).filter fun y => decide (y ∉ nm)).map V.str)) ∧ Same H5 Hx) ?_ ?_ ?_ ?_
    · exact ⟨upd_same, (Same.refl H5).put hD⟩
    · rintro i Hx _ ⟨_, sx⟩
      exact SqL.of (sx l2 _ e5)
    · rintro i y Hx hy ⟨hDx, sx⟩
      have hil : i < cands.length := by
        have := (List.getElem?_eq_some_iff.mp hy).1
        rwa [List.length_map] at this
      have hzi : cands[i]? = some cands[i] := List.getElem?_eq_getElem hil
      rw [List.getElem?_map, hzi] at hy
      have et : cands.take (i + 1) = cands.take i ++ [cands[i]] := by rw [List.take_add_one, hzi]; rfl
      generalize cands[i] = z at hzi hy et
      cases hy
      rw [cands_len] at hil
      have fl : ((cands.take i).filter fun y => decide (y ∉ nm)).length ≤ i := Nat.le_trans (List.length_filter_le _ _) (by rw [List.length_take]; omega)
      refine ⟨rfl, _, rfl, _, rfl, l, _, rfl, .inl (SqL.of (sx l _ hl5)), rfl, flat_strs _, _, rfl, ?_⟩
      rw [if_pos rfl, inV_strs]
      refine ite2 (fun h => ⟨_, rfl, _, hDx, ?_, ?_, sx.put hD⟩) (fun h => ⟨?_, sx⟩)
      · rw [List.length_map]; show _ < 16777216; omega
      · rw [upd_same, et, List.filter_append, List.filter_cons, if_pos (by simpa using h), List.map_append]
        rfl
      · rw [et, List.filter_append, List.filter_cons, if_neg (by simpa using h), List.filter_nil, List.append_nil]
        exact hDx
    · rintro Hx ⟨hDx, sx⟩
      rw [List.length_map, List.take_length] at hDx
      exact k D Hx (sH.free hD) hDx (sH.trans sx)
end
end K2
end
section
set_option Elab.async false
set_option maxRecDepth 100000
set_option linter.all false
namespace K2
open PySem L2 PySem.Spec PyProof.Rows
theorem pick_one (items : Array Value) : slicePick items none none (some 1) = items := slicePick_all items
def zStep (K : PySem.W.Frag) (Q : VK) (x : V) : Option Int → Hp → Prop := fun o H => ∃ a xs, x = .ref a ∧ SqL K H a xs ∧ ((o = some 1 ∧ ∀ p, H p = none → Q (.ref p) (upd H p (.lst xs))) ∨ (o = some (-1) ∧ ∀ p, H p = none → Q (.ref p) (upd H p (.lst xs.reverse))))
/-- l[::e], e is 1 or -1 -/
def tStepL (K : PySem.W.Frag) (te ts : TE) : TE := fun σ H Q => te σ H fun x H1 => ts σ H1 fun y H2 => ∃ i, y = .int i ∧ zStep K Q x (some i) H2
theorem pe_stepL {X : Cx} {e st : Expr} {te ts : TE} {p3 pos : Pos} (he : PE X e te) (hs : PE X st ts) : PE X (.Subscript e (.Slice none none (some st) p3) pos) (tStepL X.K te ts) := by
  constructor
  intro pins s σ H Q I h
  refine Subscript_ (thn (he.run pins s σ H _ I h) fun v s1 ⟨x, H1, I1, r1, q1⟩ => ?_)
  have hst : PO X (some st) (tPart ts) := po_some hs
  refine wpAny_Slice (thn (po_none.run pins s1 σ H1 (fun o H2 => o = none ∧ H2 = H1) I1 ⟨rfl, rfl⟩) fun vl s2 ⟨l, H2, I2, pl, el, e2⟩ => ?_)
  subst el e2
  refine thn (po_none.run pins s2 σ H2 (fun o H3 => o = none ∧ H3 = H2) I2 ⟨rfl, rfl⟩) fun vu s3 ⟨u, H3, I3, pu, eu, e3⟩ => ?_
  subst eu e3
  refine thn (hst.run pins s3 σ H3 (zStep X.K Q x) I3 q1) fun vs s4 ⟨o, H4, I4, ps, z⟩ => ?_
  obtain ⟨a, xs, ex, hx, z⟩ := z
  subst ex
  cases r1
  have I5 : Inv X pins σ H4 { s4 with heap := s4.heap.push { cls := .type "slice", data := .fields #[vl, vu, vs] } } := I4.kept (t' := s4.toks) fun b ob q => Heap.get?_push_of_some _ q
  obtain ⟨its, r, ht, hz⟩ := I5.list hx
  have hlen := r.length
  show wpAny (model X.prog X.w) X.A (subscriptTail e (.Slice none none (some st) p3) (.ref a) (.ref s4.heap.objs.size)) (EP X pins σ Q) X.xe { s4 with heap := s4.heap.push { cls := .type "slice", data := .fields #[vl, vu, vs] } }
  refine tail_any (ops := [.ref a, .ref s4.heap.objs.size]) ht.isList.typeIs (PySem.slot_list_getitem.lookup) ?_ (by with_unfolding_all rfl)
  rcases z with ⟨rfl, q⟩ | ⟨rfl, q⟩
  · refine wpAny_getItem_list_slice ht.isList (Heap.IsSliceOf.new _ vl vu vs) pl pu ps (by decide) ?_ (by rw [List.size_toArray]; omega)
    rw [pick_one]
    refine ⟨.ref _, _, I5.laid (t' := s4.toks) (o := .lst xs) (fun b ob q => Heap.get?_push_of_some _ q) (Nat.le_refl _) ?_, rfl, q _ (I5.hok.fresh (Nat.le_refl _))⟩
    exact ⟨hz, _, 0, r, Heap.get?_push_size _ rfl⟩
  · refine wpAny_getItem_list_slice ht.isList (Heap.IsSliceOf.new _ vl vu vs) pl pu ps (by decide) ?_ (by rw [List.size_toArray]; omega)
    rw [PySem.W.krv_pick]
    refine ⟨.ref _, _, I5.laid (t' := s4.toks) (o := .lst xs.reverse) (fun b ob q => Heap.get?_push_of_some _ q) (Nat.le_refl _) ?_, rfl, q _ (I5.hok.fresh (Nat.le_refl _))⟩
    exact ⟨by rw [List.length_reverse]; exact hz, _, 0, r.reverse, Heap.get?_push_size _ rfl⟩
end K2
end
section
set_option Elab.async false
set_option maxRecDepth 100000
set_option linter.all false
namespace K2
open PySem L2 PySem.Spec PyProof.Rows
abbrev sTW : Stmt := top 41
abbrev nTW : List Str := ["_law_pen_here", "_law_built", "_law_names", "_law_fresh_here", "_law_low", "_law_high", "_law_both", "_law_whole", "_law_due"]
theorem least_one (tb : Tb) (x : Str) : Least tb [x] [x] := ⟨by simp, rfl, fun y => ⟨fun hy => ⟨hy, fun z hz ne => by
  rw [List.mem_singleton.mp hz, List.mem_singleton.mp hy] at ne
  exact absurd rfl ne⟩, fun hy => hy.1⟩⟩
theorem look_snoc {rs : List Row} {x : Str} {bs : List Str} (g : Good (rs ++ [(x, bs)])) {y : Str} : y ∈ look (ups (rs ++ [(x, bs)])) x ↔ y = x ∨ ∃ b ∈ bs, y ∈ look (ups rs) b := by
  have := two_snoc (rs := rs) (qs := []) (x := x) (bs := bs) (by rw [List.append_nil]; exact g) (y := y)
  rwa [List.append_nil] at this
theorem ups_t0 (rs : List Row) : ∃ e, ups rs = t0 ++ e := foldl_pre rs t0
theorem look_err (rs : List Row) : look (ups rs) sErr = [sErr] := by
  obtain ⟨e, h⟩ := ups_t0 rs
  rw [h, look_app (by decide +kernel)]
  decide +kernel
theorem look_vac (rs : List Row) : look (ups rs) sVac = [sVac, sErr] := by
  obtain ⟨e, h⟩ := ups_t0 rs
  rw [h, look_app (by decide +kernel)]
  decide +kernel
def dueB (b : Bool) : Str := if b then sVac else sErr
theorem due_known (rs : List Row) (b : Bool) : dueB b ∈ keys (ups rs) := by
  rw [keys_ups]
  refine List.mem_append_left _ ?_
  cases b <;> simp [dueB, base0]
theorem due_vac {rs : List Row} {x : Str} {b : Bool} (g : Good (rs ++ [(x, [dueB b])])) (hx : x ∉ keys (ups rs)) : decide (sVac ∈ look (ups (rs ++ [(x, [dueB b])])) x) = b := by
  have hv : ¬ sVac = x := fun e => hx (by rw [← e]; exact due_known rs true)
  cases b with
  | true =>
    refine decide_eq_true ((look_snoc g).mpr (.inr ⟨sVac, by simp [dueB], ?_⟩))
    rw [look_vac]
    simp
  | false =>
    refine decide_eq_false fun h => ?_
    rcases (look_snoc g).mp h with h | ⟨c, hc, h⟩
    · exact hv h
    · have : c = sErr := by simpa [dueB] using hc
      rw [this, look_err] at h
      exact err_ne_vac (List.mem_singleton.mp h).symm
theorem due_err {rs : List Row} {x : Str} {b : Bool} (g : Good (rs ++ [(x, [dueB b])])) : sErr ∈ look (ups (rs ++ [(x, [dueB b])])) x := by
  refine (look_snoc g).mpr (.inr ⟨dueB b, by simp, ?_⟩)
  cases b with
  | true => show sErr ∈ look (ups rs) sVac; rw [look_vac]; simp
  | false => show sErr ∈ look (ups rs) sErr; rw [look_err]; simp
theorem due_kind {rs : List Row} {x : Str} {b : Bool} {ys : List Str} (g : Good (rs ++ [(x, [dueB b])])) (hx : x ∉ keys (ups rs)) (h : Least (ups rs) (around (ups rs) (ups (rs ++ [(x, [dueB b])])) x) ys) : ys = [dueB b] := by
  refine later_kind (qs := []) (bs := [dueB b]) (so := [dueB b]) g ?_ (least_one _ _) (fun c hc => .inl hc) (fun c hc => hc) hx h
  intro c hc
  rw [List.mem_singleton.mp hc]
  exact due_known rs b
theorem RowsAt.one' {H : Hp} {t : Addr} {r : Row} (h : H t = some (rowO r)) : RowsAt H [t] [r] := (rowsAt_nil H).snoc h
/-- what stands in the list of both -/
def OkIt (C : Addr) (H : Hp) (rs : List Row) (x : Str) (v : V) : Prop := ∃ (t w : Addr) (b : Bool), v = .ref t ∧ H t = some (.tup [.ref w, .bl b]) ∧ ClsW C H w (rs ++ [(x, [dueB b])])
theorem OkIt.same {C : Addr} {H H' : Hp} {rs : List Row} {x : Str} {v : V} (h : OkIt C H rs x v) (s : Same H H') : OkIt C H' rs x v := by
  obtain ⟨t, w, b, e, h1, h2⟩ := h
  exact ⟨t, w, b, e, s _ _ h1, h2.same s⟩
def spTW (C : Addr) : Sp := fun vs H Q _ => ∃ (p c b l : Addr) (ns : List Int) (n : Nat) (rs : List Row) (x : Str), vs = [.ref p, .ref b, .ref l, .str x] ∧ Pen H p c ns n ∧ n + 10 ≤ 100000 ∧ ClsW C H b rs ∧ Good rs ∧ rs.length < 30 ∧ H l = some (.lst ((keys (ups rs)).map V.str)) ∧ x ∉ keys (ups rs) ∧ VW x ∧
  ∀ H', Q (.bl true) H'
section
variable {P : Program} {w : World} {K : PySem.W.Frag} {mg : Str → Option Value} {base : Heap}
theorem scTW : FnScope nTW ["_law_pen_here", "_law_built", "_law_names", "_law_fresh_here"] (defScope sTW) := ⟨rfl, rfl, rfl, by decide +kernel, rfl, by decide +kernel, by decide +kernel⟩
set_option maxHeartbeats 1000000 in
theorem ok_tw {f fD fE fCo fWR fW fKO C : Addr} {fd fdD fdE fdCo fdW fdKO : FuncData} (F : Fun K "_law_twice_right" "_law_twice_right" sTW f fd) (T : Bi mg) (Y : Txt K mg C) (O : Own K C)
    (D : Df K mg "_law_draw" sDraw fD fdD ["_law_pen_here", "_law_many"]) (GD : FnOk P w K mg base CX0 1 fD fdD ["_law_pen_here", "_law_many"] spDraw)
    (GE : FnOk P w K mg base CX0 1 fE fdE ["self", "other"] (spEqC K C)) (bE : Binds K fdE ["self", "other"] []) (hE : PySem.W.findIn K (.ref C) "__eq__" = some (some (.ref fE))) (hEf : PySem.W.isFn K (.ref fE) = true)
    (hNE : PySem.W.findIn K (.ref C) "__ne__" = some (some (.builtin "object.__ne__"))) (hOb : PySem.W.mroIn K C (.type "object") = some true)
    (GCo : FnOk P w K mg base CX0 1 fCo fdCo ["self", "x"] (spCo K C)) (bCo : Binds K fdCo ["self", "x"] []) (hCo : PySem.W.findIn K (.ref C) "__contains__" = some (some (.ref fCo))) (hCof : PySem.W.isFn K (.ref fCo) = true)
    (mWR : Meth K C "with_rows" fWR) (GWR : FnR P w K mg base CX0 6 fWR (spWRr C)) (mW : Meth K C "within" fW) (GW : FnOk P w K mg base CX0 1 fW fdW ["self", "one", "other"] (spWithin C)) (bW : Binds K fdW ["self", "one", "other"] [])
    (mKO : Meth K C "kind_of" fKO) (GKO : FnOk P w K mg base CX0 4 fKO fdKO ["self", "name", "among"] (spKO C)) (bKO : Binds K fdKO ["self", "name", "among"] []) :
    FnOk P w K mg base CX0 7 f fd ["_law_pen_here", "_law_built", "_law_names", "_law_fresh_here"] (spTW C) := by
  refine F.ok scTW (fun vs H Q E h => ?_) (fun cdv A outer s H vs Q E hr h => ?_)
  · obtain ⟨p, c, b, l, ns, n, rs, x, rfl, _⟩ := h
    rfl
  · obtain ⟨p, c, b, l, ns, n, rs, x, rfl, P0, hn, cb, g, h30, hl, hx, hvx, k⟩ := h
    have hu := hu_of hr
    have hr6 : Room 6 _ := hr.mono (by decide)
    have hr4 : Room 4 _ := hr.mono (by decide)
    have hr2 : Room 2 _ := hr.mono (by decide)
    have hr1 : Room 1 _ := hr.mono (by decide)
    have gb : ∀ b, Good (rs ++ [(x, [dueB b])]) := fun b => good_snoc g (by
      rw [← keys_ups]
      exact ⟨hvx, hx, by simp, by simp, fun c hc => by rw [List.mem_singleton.mp hc]; exact due_known rs b⟩)
    have lb : ∀ b, (rs ++ [(x, [dueB b])]).length ≤ 30 := fun b => by rw [List.length_append]; show _ + 1 ≤ 30; omega
    have fitb := fun b => (gb b).fit (lb b)
    have fit0 := g.fit (Nat.le_of_lt h30)
    have hkl : (keys (ups rs)).length ≤ 40 := by
      rw [keys_ups, List.length_append, List.length_map]
      show 2 + _ ≤ 40
      omega
    have kx : ∀ b, x ∈ keys (ups (rs ++ [(x, [dueB b])])) := fun b => by
      rw [keys_ups, List.map_append]
      simp
    refine ⟨_, (pss_cons (ps_par (i := 4) (j := 5) (by rfl) scTW.nd rfl rfl (by decide) rfl rfl (pa_cons (L2.pe_methR (pv 1) Y.cl mWR GWR hr6 pass0 (pa_cons (pe_tup (pa_cons (pv 3) (pa_cons pe_str pa_nil))) pa_nil)) (pa_cons (L2.pe_methR (pv 1) Y.cl mWR GWR hr6 pass0 (pa_cons (pe_tup (pa_cons (pv 3) (pa_cons pe_str pa_nil))) pa_nil)) pa_nil)) (by rfl))
      (pss_cons (ps_set (i := 6) scTW.nd rfl (Or.inl rfl) (pe_stepL (pe_lst (pa_cons (pe_tup (pa_cons (pv 4) (pa_cons pe_bl pa_nil))) (pa_cons (pe_tup (pa_cons (pv 5) (pa_cons pe_bl pa_nil))) pa_nil))) (pe_ix ix_list (pe_lst (pa_cons pe_int (pa_cons (pe_un un_neg pe_int) pa_nil))) (pe_call GD hr1 (by rfl) D.m D.F.kp D.b .nil pass0 (pa_cons (pv 0) (pa_cons pe_int pa_nil))) (fun _ _ => rfl))))
      (pss_cons (ps_for PassesOwn.never rfl (pi_list (pe_op op_cat (pv 6) (pv 6))) (pg_tup rfl (pgs_cons (pg_name (i := 7) scTW.nd rfl (Or.inl rfl)) (pgs_cons (pg_name (i := 8) scTW.nd rfl (Or.inl rfl)) pgs_nil)))
      (pss_cons (ps_if (PW.pt (pw_or (pt_cmpR op_ne (pe_meth (pv 7) Y.cl mW GW hr1 bW .nil pass0 (pa_cons (pv 3) (pa_cons pe_str pa_nil))) (pv 8) (nomark _)) (pw_or1 (pt_cmpR op_notBl (pe_meth (pv 7) Y.cl mW GW hr1 bW .nil pass0 (pa_cons (pv 3) (pa_cons pe_str pa_nil))) pe_bl (nomark _)))))
        (pss_one (ps_ret pe_bl))
        pss_nil)
        (pss_one (ps_if (PW.pt (pw_or (pt_cmpR (op_neD hr.units) (pe_meth (pv 7) Y.cl mKO GKO hr4 bKO .nil pass0 (pa_cons (pv 3) (pa_cons (pv 1) pa_nil))) (pe_ifExp (pt_val (pv 8)) (pe_tup (pa_cons pe_str pa_nil)) (pe_tup (pa_cons pe_str pa_nil))) (nomark _)) (pw_or1 (pt_cmpR (op_inO GCo bCo pass0 hr1 hCo hCof) (pv 3) (pv 1) rfl))))
        (pss_one (ps_ret pe_bl))
        pss_nil))))
      (pss_one (ps_ret (pe_and (pe_cmpR (op_eqD hr.units) (pe_callTy call_list_of (by rfl) T.list (by decide +kernel) (pa_cons (pe_fld (pv 1) rfl) pa_nil)) (pv 2) (nomark _)) (pe_one (pe_cmpR (op_neO GE bE pass0 hr2 hu hE hEf hNE hOb) (pv 4) (pv 5) (nomark _))))))))), ?_⟩
    -- low
    obtain ⟨dxb, fsb, hb1, hb2⟩ := cb.ins
    have hb2' := hb2 "with_rows" (by decide +kernel) (by decide +kernel) (by decide +kernel)
    refine ⟨_, rfl, b, dxb, fsb, rfl, hb1, hb2', _, rfl, (by show 2 ≤ sizeLine; decide), fun t1 ht1 => ?_⟩
    have s1 : Same H (upd H t1 (.tup [V.str x, V.str (Str.ofString "error")])) := (Same.refl H).put ht1
    have e1 : (upd H t1 (.tup [V.str x, V.str (Str.ofString "error")])) t1 = some (rowO (x, [dueB false])) := upd_same
    generalize upd H t1 (.tup [V.str x, V.str (Str.ofString "error")]) = H1 at s1 e1 ⊢
    refine ⟨[V.ref b], _, rfl, rfl, (by show 1 ≤ 16777216; decide), fun pt hpt => ?_⟩
    have q1 : Same H1 (upd H1 pt (.tup [V.ref t1])) := (Same.refl H1).put hpt
    refine ⟨b, pt, rs, [(x, [dueB false])], [t1], rfl, (cb.same s1).same q1, upd_same, (RowsAt.one' e1).mono fun q r e => q1 q _ e, gb false, lb false, fun lo H2 clo q2 => ?_⟩
    have s2 : Same H H2 := (s1.trans q1).trans q2
    have cb2 := cb.same s2
    -- high
    obtain ⟨dxb2, fsb2, hb3, hb4⟩ := cb2.ins
    have hb4' := hb4 "with_rows" (by decide +kernel) (by decide +kernel) (by decide +kernel)
    refine ⟨_, rfl, b, dxb2, fsb2, rfl, hb3, hb4', _, rfl, (by show 2 ≤ sizeLine; decide), fun t2 ht2 => ?_⟩
    have s3 : Same H2 (upd H2 t2 (.tup [V.str x, V.str (Str.ofString "vacant")])) := (Same.refl H2).put ht2
    have e3 : (upd H2 t2 (.tup [V.str x, V.str (Str.ofString "vacant")])) t2 = some (rowO (x, [dueB true])) := upd_same
    generalize upd H2 t2 (.tup [V.str x, V.str (Str.ofString "vacant")]) = H3 at s3 e3 ⊢
    refine ⟨[V.ref b], _, rfl, rfl, (by show 1 ≤ 16777216; decide), fun pt2 hpt2 => ?_⟩
    have q3 : Same H3 (upd H3 pt2 (.tup [V.ref t2])) := (Same.refl H3).put hpt2
    refine ⟨b, pt2, rs, [(x, [dueB true])], [t2], rfl, (cb2.same s3).same q3, upd_same, (RowsAt.one' e3).mono fun q r e => q3 q _ e, gb true, lb true, fun hi H4 chi q4 => ?_⟩
    have s4 : Same H2 H4 := (s3.trans q3).trans q4
    have sH4 := s2.trans s4
    have clo4 := clo.same s4
    refine ⟨_, _, rfl, ?_⟩
    -- both
    refine ⟨_, rfl, (by show 2 ≤ sizeLine; decide), fun u1 hu1 => ⟨_, rfl, (by show 2 ≤ sizeLine; decide), fun u2 hu2 => ⟨(by show 2 ≤ sizeLine; decide), fun l1 hl1 => ?_⟩⟩⟩
    have a1 : Same H4 (upd H4 u1 (.tup [V.ref lo, V.bl false])) := (Same.refl H4).put hu1
    have b1 : (upd H4 u1 (.tup [V.ref lo, V.bl false])) u1 = some (.tup [V.ref lo, V.bl false]) := upd_same
    generalize upd H4 u1 (.tup [V.ref lo, V.bl false]) = H5 at a1 b1 hu2 hl1 ⊢
    have a2 : Same H5 (upd H5 u2 (.tup [V.ref hi, V.bl true])) := (Same.refl H5).put hu2
    have b2 : (upd H5 u2 (.tup [V.ref hi, V.bl true])) u2 = some (.tup [V.ref hi, V.bl true]) := upd_same
    generalize upd H5 u2 (.tup [V.ref hi, V.bl true]) = H6 at a2 b2 hl1 ⊢
    have a3 : Same H6 (upd H6 l1 (.lst [V.ref u1, V.ref u2])) := (Same.refl H6).put hl1
    have b3 : (upd H6 l1 (.lst [V.ref u1, V.ref u2])) l1 = some (.lst ([u1, u2].map V.ref)) := upd_same
    generalize upd H6 l1 (.lst [V.ref u1, V.ref u2]) = H7 at a3 b3 ⊢
    have s47 := (a1.trans a2).trans a3
    have s7 := sH4.trans s47
    refine ⟨1, rfl, (by show 2 ≤ sizeLine; decide), fun l2 hl2 => ?_⟩
    have a4 : Same H7 (upd H7 l2 (.lst [V.int 1, V.int (-1)])) := (Same.refl H7).put hl2
    have b4 : (upd H7 l2 (.lst [V.int 1, V.int (-1)])) l2 = some (.lst ([(1 : Int), -1].map V.int)) := upd_same
    have P8 := (P0.same s7).same a4
    have n2 : l2 ≠ p := fun e => by
      obtain ⟨aa, ll, gg, _⟩ := (P0.same s7).pen
      rw [e, gg] at hl2
      cases hl2
    generalize upd H7 l2 (.lst [V.int 1, V.int (-1)]) = H8 at a4 b4 P8 ⊢
    refine ⟨_, rfl, p, c, ns, n, 2, rfl, P8, by omega, by decide, by decide, fun dv H9 d0 d1 k9 P9 => ?_⟩
    have kk9 : Keep p H4 H9 := ((s47.trans a4).keep).trans k9
    have P4 := P0.same sH4
    have e1' : H9 u1 = some (.tup [V.ref lo, V.bl false]) := k9 _ _ (a4 _ _ (a3 _ _ (a2 _ _ b1))) fun e => by
      obtain ⟨aa, ll, gg, _⟩ := P4.pen
      rw [e, gg] at hu1
      cases hu1
    have e2' : H9 u2 = some (.tup [V.ref hi, V.bl true]) := k9 _ _ (a4 _ _ (a3 _ _ b2)) fun e => by
      obtain ⟨aa, ll, gg, _⟩ := (P4.same a1).pen
      rw [e, gg] at hu2
      cases hu2
    have o1 : OkIt C H9 rs x (.ref u1) := ⟨u1, lo, false, rfl, e1', (clo4.kp kk9 P4)⟩
    have o2 : OkIt C H9 rs x (.ref u2) := ⟨u2, hi, true, rfl, e2', (chi.kp kk9 P4)⟩
    have cb9 := (cb2.same s4).kp kk9 P4
    have hl9 := k9 _ _ (a4 _ _ (s7 _ _ hl)) (P0.strs_ne hl)
    have hls9 := k9 _ _ (a4 _ _ b3) ((P4.same s47).refs_ne b3)
    have hst9 := k9 _ _ b4 n2
    have clo9 := clo4.kp kk9 P4
    have chi9 := chi.kp kk9 P4
    have main : ∀ (lb' : Addr) (H10 : Hp) (xs : List V), Same H9 H10 → H10 lb' = some (.lst xs) → xs.length ≤ 2 → (∀ v ∈ xs, OkIt C H9 rs x v) → True := fun _ _ _ _ _ _ _ => trivial
    obtain ⟨it, hit, hdv⟩ : ∃ it : Int, (([(1 : Int), -1].map V.int))[dv.toNat]? = some (V.int it) ∧ (it = 1 ∨ it = -1) := by
      rcases (show dv = 0 ∨ dv = 1 by omega) with rfl | rfl
      · exact ⟨1, rfl, .inl rfl⟩
      · exact ⟨-1, rfl, .inr rfl⟩
    have atd : atI ([(1 : Int), -1].map V.int) dv = some (V.int it) := by
      have := atI_nat (xs := [(1 : Int), -1].map V.int) (j := dv.toNat) hit
      rwa [Int.toNat_of_nonneg d0] at this
    refine ⟨l2, _, dv, _, rfl, rfl, SqL.of hst9, atd, it, rfl, l1, _, rfl, SqL.of hls9, ?_⟩
    rcases hdv with rfl | rfl
    case' inl =>
      refine .inl ⟨rfl, fun q hq => ?_⟩
      obtain ⟨xs, ex, hxs, ok⟩ : ∃ xs : List V, [u1, u2].map V.ref = xs ∧ xs.length ≤ 2 ∧ ∀ v ∈ xs, OkIt C H9 rs x v := ⟨_, rfl, Nat.le_refl _, fun v hv => by
        rcases List.mem_cons.mp hv with rfl | hv
        · exact o1
        · rw [List.mem_singleton.mp hv]; exact o2⟩
      rw [ex]
    case' inr =>
      refine .inr ⟨rfl, fun q hq => ?_⟩
      obtain ⟨xs, ex, hxs, ok⟩ : ∃ xs : List V, ([u1, u2].map V.ref).reverse = xs ∧ xs.length ≤ 2 ∧ ∀ v ∈ xs, OkIt C H9 rs x v := ⟨_, rfl, Nat.le_refl _, fun v hv => by
        rcases List.mem_cons.mp (List.mem_reverse.mp hv) with rfl | hv
        · exact o1
        · rw [List.mem_singleton.mp hv]; exact o2⟩
      rw [ex]
    all_goals
      have s10 : Same H9 (upd H9 q (.lst xs)) := (Same.refl H9).put hq
      have e10 : (upd H9 q (.lst xs)) q = some (.lst xs) := upd_same
      generalize upd H9 q (.lst xs) = H10 at s10 e10 ⊢
      refine ⟨_, rfl, _, rfl, q, q, _, _, rfl, rfl, e10, e10, by show xs.length + xs.length ≤ 16777216; omega, fun q2 hq2 => ?_⟩
      have s11 : Same H10 (upd H10 q2 (.lst (xs ++ xs))) := (Same.refl H10).put hq2
      have e11 : (upd H10 q2 (.lst (xs ++ xs))) q2 = some (.lst (xs ++ xs)) := upd_same
      generalize upd H10 q2 (.lst (xs ++ xs)) = H11 at s11 e11 ⊢
      have s911 := s10.trans s11
      refine ⟨q2, rfl, ⟨_, SqL.of e11⟩, ?_⟩
      refine for_list (K := K) (a := q2) (xs := xs ++ xs) (fun i σ Hc => ∃ v7 v8 : Option V, σ = [some (.ref p), some (.ref b), some (.ref l), some (.str x), some (.ref lo), some (.ref hi), some (.ref q), v7, v8] ∧ Same H9 Hc ∧ Hc q2 = some (.lst (xs ++ xs))) ?_ ?_ ?_ ?_
      · exact ⟨_, _, rfl, s911, e11⟩
      · rintro i σ Hc _ ⟨v7, v8, rfl, _, e⟩
        exact SqL.of e
      · rintro i y σ Hc hy ⟨v7, v8, rfl, sc, ec⟩
        have hm : y ∈ xs := by
          rcases List.mem_append.mp (List.mem_of_getElem? hy) with h | h <;> exact h
        obtain ⟨t, wh, bb, rfl, ht, cw⟩ := (ok y hm).same sc
        refine ⟨t, _, rfl, SqT.of ht, rfl, _, _, rfl, _, _, rfl, rfl, ?_⟩
        obtain ⟨dxw, fsw, hw1, hw2⟩ := cw.ins
        have hw2' := hw2 "within" (by decide +kernel) (by decide +kernel) (by decide +kernel)
        have hw2k := hw2 "kind_of" (by decide +kernel) (by decide +kernel) (by decide +kernel)
        have cbc := cb9.same sc
        obtain ⟨dxb3, fsb3, hb5, _⟩ := cbc.ins
        refine ⟨_, rfl, wh, dxw, fsw, rfl, hw1, hw2', _, rfl, wh, x, sVac, _, rfl, cw.at, kx bb, _, rfl, rfl, _, rfl, iteNS ?_ ?_⟩
        · exact congrArg V.bl (due_vac (gb bb) hx)
        refine ⟨_, rfl, wh, dxw, fsw, rfl, hw1, hw2', _, rfl, wh, x, sErr, _, rfl, cw.at, kx bb, _, _, rfl, rfl, _, rfl, ?_⟩
        rw [decide_eq_true (due_err (gb bb))]
        refine iteF ?_
        refine ⟨_, rfl, wh, dxw, fsw, rfl, hw1, hw2k, _, rfl, _, rfl, wh, b, x, _, rs, rfl, cw.at, cbc, kx bb, hkl, fun ys r H12 L _ hr12 s12 => ?_⟩
        obtain rfl := due_kind (gb bb) hx L
        have dok : ∀ bb, ∀ y ∈ [dueB bb], sOk y = true := fun bb y hy => by
          rw [List.mem_singleton.mp hy]
          cases bb <;> decide +kernel
        cases bb with
        | false =>
          refine ⟨_, rfl, _, rfl, iteF ⟨(by show 1 ≤ sizeLine; decide), fun t3 ht3 => ?_⟩⟩
          have s13 : Same H12 (upd H12 t3 (.tup [V.str (Str.ofString "error")])) := (Same.refl H12).put ht3
          have e13 : (upd H12 t3 (.tup [V.str (Str.ofString "error")])) t3 = some (.tup ([dueB false].map V.str)) := upd_same
          generalize upd H12 t3 (.tup [V.str (Str.ofString "error")]) = H13 at s13 e13 ⊢
          refine ⟨tD [dueB false], tD [dueB false], .tup (SqT.of (s13 _ _ hr12)) (strs_dp _ _ _), .tup (SqT.of e13) (strs_dp _ _ _), tD_shaped _ (dok false), tD_shaped _ (dok false), _, rfl, ?_⟩
          rw [tD_eqv]
          refine iteF ⟨_, rfl, _, rfl, b, dxb3, fsb3, rfl, (s12.trans s13) _ _ hb5, b, _, rs, rfl, cbc.same (s12.trans s13), .inl ⟨x, rfl, _, rfl, _, rfl, ?_⟩⟩
          rw [decide_eq_false hx]
          exact iteF ⟨_, _, rfl, sc.trans (s12.trans s13), (s12.trans s13) _ _ ec⟩
        | true =>
          refine ⟨_, rfl, _, rfl, iteT ⟨(by show 1 ≤ sizeLine; decide), fun t3 ht3 => ?_⟩⟩
          have s13 : Same H12 (upd H12 t3 (.tup [V.str (Str.ofString "vacant")])) := (Same.refl H12).put ht3
          have e13 : (upd H12 t3 (.tup [V.str (Str.ofString "vacant")])) t3 = some (.tup ([dueB true].map V.str)) := upd_same
          generalize upd H12 t3 (.tup [V.str (Str.ofString "vacant")]) = H13 at s13 e13 ⊢
          refine ⟨tD [dueB true], tD [dueB true], .tup (SqT.of (s13 _ _ hr12)) (strs_dp _ _ _), .tup (SqT.of e13) (strs_dp _ _ _), tD_shaped _ (dok true), tD_shaped _ (dok true), _, rfl, ?_⟩
          rw [tD_eqv]
          refine iteF ⟨_, rfl, _, rfl, b, dxb3, fsb3, rfl, (s12.trans s13) _ _ hb5, b, _, rs, rfl, cbc.same (s12.trans s13), .inl ⟨x, rfl, _, rfl, _, rfl, ?_⟩⟩
          rw [decide_eq_false hx]
          exact iteF ⟨_, _, rfl, sc.trans (s12.trans s13), (s12.trans s13) _ _ ec⟩
      · rintro σ Hc ⟨v7, v8, rfl, sc, ec⟩
        have cbc := cb9.same sc
        obtain ⟨dx3, r3, n3, l3, kvs3, ts3, g1, _, _, g4, g5, g6⟩ := cbc
        have okk : ∀ y ∈ keys (ups rs), sOk y = true := fun y hy => by
          have := g.vw_known rs.length
          rw [← keys_ups_take, List.take_length] at this
          exact (vw_ok (this y hy)).1
        refine ⟨_, rfl, b, C, dx3, _, _, rfl, g1, Y.cl, Y.nN, flds_names _ _ _, n3, _, rfl, .inr (SqT.of g4), fun q3 hq3 => ?_⟩
        have s14 : Same Hc (upd Hc q3 (.lst ((keys (ups rs)).map V.str))) := (Same.refl Hc).put hq3
        have e14 : (upd Hc q3 (.lst ((keys (ups rs)).map V.str))) q3 = some (.lst ((keys (ups rs)).map V.str)) := upd_same
        generalize upd Hc q3 (.lst ((keys (ups rs)).map V.str)) = H14 at s14 e14 ⊢
        have sc14 := sc.trans s14
        refine ⟨_, rfl, .list ((keys (ups rs)).map PyData.str), .list ((keys (ups rs)).map PyData.str), .lst (SqL.of e14) (strs_dp _ _ _), .lst (SqL.of (sc14 _ _ hl9)) (strs_dp _ _ _), strs_shaped _ okk, strs_shaped _ okk, _, rfl, ?_⟩
        rw [show PyData.eqv (.list ((keys (ups rs)).map PyData.str)) (.list ((keys (ups rs)).map PyData.str)) = true from (strs_eqv _ _).trans (decide_eq_true rfl)]
        have clo14 := clo9.same sc14
        have chi14 := chi9.same sc14
        obtain ⟨dxl, fsl, hlo1, _⟩ := clo14.ins
        obtain ⟨dxh, fsh, hhi1, _⟩ := chi14.ins
        refine iteT ⟨_, rfl, _, rfl, lo, hi, dxl, fsl, dxh, fsh, rfl, rfl, hlo1, hhi1, lo, _, _, rfl, clo14, fitb false, .inl ⟨hi, _, rfl, chi14, fitb true, _, rfl, ?_⟩⟩
        have ne : ¬ rs ++ [(x, [dueB false])] = rs ++ [(x, [dueB true])] := fun e => by
          have := List.append_cancel_left e
          simp [dueB] at this
          exact err_ne_vac this
        rw [decide_eq_false ne]
        exact k _
end
end K2
end
section
set_option Elab.async false
set_option maxRecDepth 100000
set_option linter.all false
namespace K2
open PySem L2 PySem.Spec PyProof.Rows
abbrev sLR : Stmt := top 40
abbrev nLR : List Str := ["_law_pen_here", "_law_built", "_law_uppers_here", "_law_sort_so", "_law_sorts", "_law_fresh_here", "_law_above", "_law_name", "_law_one", "_law_bases", "_law_others", "_law_k", "_law_more", "_law_whole", "_law_row_here"]
theorem ix_tupK {X : Cx} {K' : PySem.W.Frag} (hK : X.K = K') : IxR X (rIxT K') := by
  subst hK
  exact ix_tup
/-- x not in t, t a tuple of data -/
def rNotInDT (K : PySem.W.Frag) : R2 := fun x y H Q => ∃ d ds, Dp K H x d ∧ Dp K H y (.tuple ds) ∧ SeqAt.shaped d = true ∧ SeqAt.shaped (.tuple ds) = true ∧ d.depth ≤ 8 ∧ Q (.bl (!ds.any fun z => PyData.eqv z d)) H
theorem op_notInDT {X : Cx} {K' : PySem.W.Frag} (hK : X.K = K') (hu : X.A.units + 64 < cLine) : OpR X (compareOp .NotIn) (rNotInDT K') := by
  subst hK
  intro pins s σ H x y v u Q I rx ry h
  obtain ⟨d, ds, hd, he, sd, se, d8, q⟩ := h
  obtain ⟨as, r1⟩ := Dp.reads I d x v hd rx
  obtain ⟨bs, r2⟩ := Dp.reads I (.tuple ds) y u he ry
  refine SeqAt.notIn_tuple_reads r2 r1 (SeqAt.canLay_of_shaped se) (SeqAt.canLay_of_shaped sd) ?_ ⟨.bl _, H, I, rfl, q⟩
  have := Nat.min_le_right (PyData.depthAll ds) d.depth
  omega
theorem PAt.dp (K : PySem.W.Frag) {H : Hp} : ∀ (as : List Addr) (ps : List (List Str)), PAt H as ps → DpAll K H (as.map V.ref) (ps.map tD)
  | [], [], _ => .nil
  | [], _ :: _, h => absurd h.len (by simp)
  | _ :: _, [], h => absurd h.len (by simp)
  | a :: as, q :: ps, h => by
    have h' : H a :: as.map H = some (.tup (q.map V.str)) :: ps.map fun xs => some (.tup (xs.map V.str)) := h
    obtain ⟨h1, h2⟩ := List.cons.inj h'
    exact .cons (.tup (SqT.of h1) (strs_dp K H q)) (PAt.dp K as ps h2)
theorem tD_eqv2 (a b : List Str) : PyData.eqv (tD a) (tD b) = decide (a = b) := strs_eqv a b
theorem any_tD (y : List Str) : ∀ ys : List (List Str), ((ys.map tD).any fun z => PyData.eqv z (tD y)) = decide (y ∈ ys)
  | [] => by simp
  | a :: ys => by
    rw [List.map_cons, List.any_cons, any_tD y ys, tD_eqv2]
    by_cases h : a = y
    · subst h; simp
    · have : ¬ y = a := fun e => h e.symm
      simp [h, this]
theorem lay_tDs : ∀ ys : List (List Str), (∀ y ∈ ys, ∀ x ∈ y, sOk x = true) → PyData.canLayAll0 (ys.map tD) = true
  | [], _ => rfl
  | y :: ys, h => by
    have q : PyData.canLay0 (tD y) = true := strs_lay _ (h y List.mem_cons_self)
    show (PyData.canLay0 (tD y) && PyData.canLayAll0 (ys.map tD)) = true
    rw [q, lay_tDs ys fun z hz => h z (List.mem_cons_of_mem _ hz)]
    rfl
theorem depth_tDs : ∀ ys : List (List Str), PyData.depthAll (ys.map tD) ≤ 1
  | [] => Nat.zero_le _
  | y :: ys => by
    show max (PyData.depth (tD y)) (PyData.depthAll (ys.map tD)) ≤ 1
    rw [tD_depth]
    exact Nat.max_le.mpr ⟨Nat.le_refl _, depth_tDs ys⟩
theorem tDs_shaped (ys : List (List Str)) (h : ∀ y ∈ ys, ∀ x ∈ y, sOk x = true) : SeqAt.shaped (.tuple (ys.map tD)) = true := by
  have d := depth_tDs ys
  show (PyData.canLayAll0 (ys.map tD) && decide (PyData.depthAll (ys.map tD) + 1 ≤ 64)) = true
  rw [lay_tDs ys h]
  simp only [Bool.true_and, decide_eq_true_eq]
  omega
theorem Pen.tup_ne {H : Hp} {p c q : Addr} {ns : List Int} {n : Nat} {xs : List V} (h : Pen H p c ns n) (hq : H q = some (.tup xs)) : q ≠ p := fun e => by
  obtain ⟨a, l, g, _⟩ := h.pen
  rw [e, g] at hq
  cases hq
theorem Pen.dict_ne {H : Hp} {p c q : Addr} {ns : List Int} {n : Nat} {kvs : List (Key × V)} (h : Pen H p c ns n) (hq : H q = some (.dK kvs)) : q ≠ p := fun e => by
  obtain ⟨a, l, g, _⟩ := h.pen
  rw [e, g] at hq
  cases hq
theorem PAt.kp {H H' : Hp} {p c : Addr} {ns : List Int} {n : Nat} {as : List Addr} {ps : List (List Str)} (h : PAt H as ps) (P : Pen H p c ns n) (k : Keep p H H') : PAt H' as ps := h.same fun b o hb e => by
  obtain ⟨xs, _, e2⟩ := h.mem hb
  exact k _ _ e (P.tup_ne e2)
/-- what was locked is free again -/
theorem unlock {H1 Hx : Hp} {d : Addr} {od : Obj} {u : HO} (h : H1 d = some u) (s : Same (upd H1 d (.frz od u)) Hx) : Same H1 (upd Hx d u) := fun b o e => by
  by_cases hb : b = d
  · subst hb
    rw [h] at e
    rw [upd_same]
    exact e
  · rw [upd_ne hb]
    exact s b o (by rw [upd_ne hb]; exact e)
/-- the classes above those of sx that are not of sx -/
def selA (tb : Tb) (sx : List Str) (x : Str) : Bool := decide (x ∉ sx) && !decide ((sx.filter fun z => decide (x ∈ look tb z)) = [])
def aboveA (tb : Tb) (sx : List Str) : List Str := (keys tb).filter (selA tb sx)
theorem mem_aboveA {tb : Tb} {sx : List Str} {x : Str} (h : x ∈ aboveA tb sx) : x ∈ keys tb ∧ x ∉ sx ∧ ∃ one ∈ sx, x ∈ look tb one := by
  obtain ⟨h1, h2⟩ := List.mem_filter.mp h
  unfold selA at h2
  rw [Bool.and_eq_true, any_filter, List.any_eq_true] at h2
  obtain ⟨h3, one, h4, h5⟩ := h2
  exact ⟨h1, of_decide_eq_true h3, one, h4, of_decide_eq_true h5⟩
theorem key_atL {f : List Str → HO} {H : Hp} {kvs : List (Key × V)} {tb : Tb} (TB : Tab f H kvs tb) {i : Nat} {k : Key} {v : V} (h : kvs[i]? = some (k, v)) : ∃ x, (keys tb)[i]? = some x ∧ k = Sum.inr x := by
  have e : (kvs.map (·.1))[i]? = some k := by rw [List.getElem?_map, h]; rfl
  rw [TB.keys_eq, List.getElem?_map] at e
  cases hx : (keys tb)[i]? with
  | none => rw [hx] at e; cases e
  | some x => rw [hx] at e; cases e; exact ⟨x, rfl, rfl⟩
theorem nd_take {l : List Str} (nd : l.Nodup) {i k : Nat} {x : Str} (h : l[i]? = some x) (hk : k ≤ i) : x ∉ l.take k := fun q => by
  obtain ⟨j, hj⟩ := List.getElem?_of_mem q
  rw [List.getElem?_take] at hj
  split at hj
  · rename_i lt
    have hjl : j < l.length := (List.getElem?_eq_some_iff.mp hj).1
    have := (List.getElem?_inj (i := j) hjl nd).mp (hj.trans h.symm)
    omega
  · cases hj
theorem rowOk_new {rs qs : List Row} {x : Str} {bs : List Str} {i k : Nat} (hx : (freshL (keys (ups rs)))[i]? = some x) (hq : qs.map (·.1) = (freshL (keys (ups rs))).take k) (hk : k ≤ i) (ne : bs ≠ []) (nd : bs.Nodup) (sub : ∀ b ∈ bs, b ∈ keys (ups rs)) : RowOk (base0 ++ (rs ++ qs).map (·.1)) (x, bs) := by
  have hm := fresh_mem (List.mem_of_getElem? hx)
  refine ⟨hm.2, fun h => ?_, ne, nd, fun b hb => ?_⟩
  · rw [List.map_append, ← List.append_assoc, ← keys_ups] at h
    rcases List.mem_append.mp h with h | h
    · exact hm.1 h
    · rw [hq] at h
      exact nd_take (fresh_nd _) hx hk h
  · rw [List.map_append, ← List.append_assoc, ← keys_ups]
    exact List.mem_append_left _ (sub b hb)
def spLR (C : Addr) : Sp := fun vs H Q _ => ∃ (p c b d so srt : Addr) (ns : List Int) (n : Nat) (rs : List Row) (kvs : List (Key × V)) (sx : List Str) (bs : List Addr) (ys : List (List Str)),
  vs = [.ref p, .ref b, .ref d, .ref so, .ref srt] ∧ Pen H p c ns n ∧ n + 200 ≤ 100000 ∧ ClsW C H b rs ∧ Good rs ∧ rs.length ≤ 4 ∧ H d = some (.dK kvs) ∧ Tab fL H kvs (ups rs) ∧ H so = some (.tup (sx.map V.str)) ∧ sx ∈ ys ∧ H srt = some (.tup (bs.map V.ref)) ∧ PAt H bs ys ∧ KindsOf (ups rs) ys ∧
  ∀ H', Keep p H H' → Pen H' p c ns (n + 60) → Q (.bl true) H'
section
variable {P : Program} {w : World} {K : PySem.W.Frag} {mg : Str → Option Value} {base : Heap}
theorem scLR : FnScope nLR ["_law_pen_here", "_law_built", "_law_uppers_here", "_law_sort_so", "_law_sorts"] (defScope sLR) := ⟨rfl, rfl, rfl, by decide +kernel, rfl, by decide +kernel, by decide +kernel⟩
set_option maxHeartbeats 2000000 in
theorem ok_lr {f fD fMi fF fM fKO pM C : Addr} {mc : Value} {fd fdD fdMi fdF fdM fdKO : FuncData} (F : Fun K "_law_later_right" "_law_later_right" sLR f fd) (T : Bi mg) (Y : Txt K mg C)
    (D : Df K mg "_law_draw" sDraw fD fdD ["_law_pen_here", "_law_many"]) (GD : FnOk P w K mg base CX0 1 fD fdD ["_law_pen_here", "_law_many"] spDraw)
    (MI : Df K mg "_law_mixed" sMixed fMi fdMi ["_law_pen_here", "_law_some"]) (GMi : FnOk P w K mg base CX0 2 fMi fdMi ["_law_pen_here", "_law_some"] spMixed)
    (FR : Df K mg "_law_fresh" sFresh fF fdF ["_law_names"]) (GF : FnOk P w K mg base CX0 1 fF fdF ["_law_names"] spFresh)
    (cR : ClX.CRead K C mc) (cM : ClX.CMet K C mc "made" pM fM) (GM : FnOk P w K mg base CX0 6 fM fdM ["cls", "rows"] (spMade C)) (bM : Binds K fdM ["cls", "rows"] [])
    (mKO : Meth K C "kind_of" fKO) (GKO : FnOk P w K mg base CX0 4 fKO fdKO ["self", "name", "among"] (spKO C)) (bKO : Binds K fdKO ["self", "name", "among"] []) :
    FnG P w K mg base 7 f fd ["_law_pen_here", "_law_built", "_law_uppers_here", "_law_sort_so", "_law_sorts"] (spLR C) := by
  refine okG F scLR (fun vs H Q E h => ?_) (fun cdv A outer s H vs Q E hr gu h => ?_)
  · obtain ⟨p, c, b, d, so, srt, ns, n, rs, kvs, sx, bs, ys, rfl, _⟩ := h
    rfl
  · obtain ⟨p, c, b, d, so, srt, ns, n, rs, kvs, sx, bs, ys, rfl, P0, hn, cb, g, h4, hd, TB, hso, hsx, hsrt, hpa, KO, k⟩ := h
    have hu := hu_of hr
    have hr6 : Room 6 _ := hr
    have hr4 : Room 4 _ := hr.mono (by decide)
    have hr2 : Room 2 _ := hr.mono (by decide)
    have hr1 : Room 1 _ := hr.mono (by decide)
    obtain ⟨sne, sk, sL⟩ := (KO.mem sx).mp hsx
    have hkl : (keys (ups rs)).length ≤ 6 := by
      rw [keys_ups, List.length_append, List.length_map]
      show 2 + _ ≤ 6
      omega
    have hvw : ∀ y ∈ keys (ups rs), VW y := by
      have := g.vw_known rs.length
      rw [← keys_ups_take, List.take_length] at this
      exact this
    have sok : ∀ y ∈ keys (ups rs), sOk y = true := fun y hy => (vw_ok (hvw y hy)).1
    have s8 : ∀ y ∈ keys (ups rs), y.length ≤ 8 := fun y hy => (vw_ok (hvw y hy)).2
    have TO : TOk (ups rs) := by
      have := tok_ups g rs.length (Nat.le_refl _)
      rwa [List.take_length] at this
    have knd := TO.nodup
    have sxl : sx.length ≤ 6 := by
      have := sL.nd.length_le_of_subset sk
      omega
    have F0 : ∀ {H' : Hp}, Keep p H H' → ClsW C H' b rs ∧ H' d = some (.dK kvs) ∧ Tab fL H' kvs (ups rs) ∧ H' so = some (.tup (sx.map V.str)) ∧ H' srt = some (.tup (bs.map V.ref)) ∧ PAt H' bs ys := fun kk =>
      ⟨cb.kp kk P0, kk _ _ hd (P0.dict_ne hd), TB.mp kk (fun us e => P0.strs_ne e rfl), kk _ _ hso (P0.tup_ne hso), kk _ _ hsrt (P0.tup_ne hsrt), hpa.kp P0 kk⟩
    generalize htb : ups rs = tb at *
    refine ⟨_, (pss_cons (ps_set (i := 5) scLR.nd rfl (Or.inl rfl) (pe_call GF hr1 (by rfl) FR.m FR.F.kp FR.b .nil pass0 (pa_cons (pe_callTy (call_list_dK rfl) (by rfl) T.list (by decide +kernel) (pa_cons (pv 2) pa_nil)) pa_nil)))
      (pss_cons (ps_set (i := 6) scLR.nd rfl (Or.inl rfl) (pe_lst pa_nil))
      (pss_cons (ps_lock (ps_for PassesOwn.never rfl (pi_keys (pv 2)) (pg_name (i := 7) scLR.nd rfl (Or.inr rfl))
      (pss_one (ps_if (PW.pt (pw_and (pt_cmpR op_notIn_seq (pv 7) (pv 3) rfl) (pw_and1 (pt_cmpR (op_neD hr.units) (pe_lc (own := [("_law_one", 8)]) (g := gName 8)  rfl scLR.nd (pi_tup (pv 3)) (blkOk_by (N := nLR) (sc := defScope sLR) (by decide +kernel)) (fun _ _ _ _ _ => pg_name (i := 8) scLR.nd rfl (Or.inl rfl)) (fun _ _ _ _ _ => pts_one (pt_cmpR (op_in_seqK (K' := K) rfl) (pv 7) (pe_dget hu (pv 2) (pv 8) (fun _ _ => rfl)) rfl)) (fun _ _ _ _ _ => pv 8)) (pe_lst pa_nil) (nomark _)))))
        (pss_one (ps_expr (pe_bm PySem.F.plainAttrs_list PySem.F.slot_list_append PySem.F.type_list_append mt_append (pv 6) (pa_cons (pv 7) pa_nil))))
        pss_nil))))
      (pss_cons (ps_set (i := 9) scLR.nd rfl (Or.inl rfl) (pe_call GMi hr2 (by rfl) MI.m MI.F.kp MI.b .nil pass0 (pa_cons (pv 0) (pa_cons (pe_op op_cat (pe_callTy call_list_of (by rfl) T.list (by decide +kernel) (pa_cons (pv 3) pa_nil)) (pe_slice sl_list (pe_call GMi hr2 (by rfl) MI.m MI.F.kp MI.b .nil pass0 (pa_cons (pv 0) (pa_cons (pv 6) pa_nil))) po_none (po_some (pe_call GD hr1 (by rfl) D.m D.F.kp D.b .nil pass0 (pa_cons (pv 0) (pa_cons pe_int pa_nil)))))) pa_nil))))
      (pss_cons (ps_set (i := 10) scLR.nd rfl (Or.inl rfl) (pe_lst pa_nil))
      (pss_cons (ps_for PassesOwn.never rfl (pi_range1 rfl T.range (pa_cons (pe_call GD hr1 (by rfl) D.m D.F.kp D.b .nil pass0 (pa_cons (pv 0) (pa_cons pe_int pa_nil))) pa_nil)) (pg_name (i := 11) scLR.nd rfl (Or.inl rfl))
      (pss_cons (ps_set (i := 12) scLR.nd rfl (Or.inl rfl) (pe_slice sl_list (pe_call GMi hr2 (by rfl) MI.m MI.F.kp MI.b .nil pass0 (pa_cons (pv 0) (pa_cons (pe_callTy (call_list_dK rfl) (by rfl) T.list (by decide +kernel) (pa_cons (pv 2) pa_nil)) pa_nil))) po_none (po_some (pe_op op_add pe_int (pe_call GD hr1 (by rfl) D.m D.F.kp D.b .nil pass0 (pa_cons (pv 0) (pa_cons pe_int pa_nil)))))))
        (pss_one (ps_expr (pe_bm PySem.F.plainAttrs_list PySem.F.slot_list_append PySem.F.type_list_append mt_append (pv 10) (pa_cons (pe_op op_cat2 (pe_tup (pa_cons (pe_ix ix_list (pv 5) (pv 11) (fun _ _ => rfl)) pa_nil)) (pe_callTy call_tuple_of (by rfl) T.tuple (by decide +kernel) (pa_cons (pv 12) pa_nil))) pa_nil))))))
      (pss_cons (ps_set (i := 13) scLR.nd rfl (Or.inr rfl) (ClX.pe_cmeth (pe_glob (v := .ref C) rfl Y.mgC rfl) cR cM (GM.raw bM .nil) hr6 pass0 (pa_cons (pe_op op_cat (pe_op op_cat (pe_callTy call_list_of (by rfl) T.list (by decide +kernel) (pa_cons (pe_fld (pv 1) rfl) pa_nil)) (pv 10)) (pe_lst (pa_cons (pe_op op_cat2 (pe_tup (pa_cons (pe_ix ix_list (pv 5) pe_int (fun _ _ => rfl)) pa_nil)) (pe_callTy call_tuple_of (by rfl) T.tuple (by decide +kernel) (pa_cons (pv 9) pa_nil))) pa_nil))) pa_nil)))
      (pss_cons (ps_if (pt_cmpR op_ne (pe_callB (call_reprD gu hr.units) (by rfl) T.repr (by decide +kernel)  (pa_cons (pe_meth (pv 13) Y.cl mKO GKO hr4 bKO .nil pass0 (pa_cons (pe_ix ix_list (pv 5) pe_int (fun _ _ => rfl)) (pa_cons (pv 1) pa_nil))) pa_nil)) (pe_callB (call_reprD gu hr.units) (by rfl) T.repr (by decide +kernel)  (pa_cons (pv 3) pa_nil)) (nomark _))
      (pss_one (ps_ret pe_bl))
      pss_nil)
      (pss_one (ps_ret (pe_cmpR (op_eqD hr.units) (pe_lc (own := [("_law_row_here", 14)]) (g := gName 14)  rfl scLR.nd (pi_list (pv 10)) (blkOk_by (N := nLR) (sc := defScope sLR) (by decide +kernel)) (fun _ _ _ _ _ => pg_name (i := 14) scLR.nd rfl (Or.inl rfl)) (fun _ _ _ _ _ => pts_one (pt_cmpR (op_notInDT (K' := K) rfl hr.units) (pe_meth (pv 13) Y.cl mKO GKO hr4 bKO .nil pass0 (pa_cons (pe_ix (ix_tupK (K' := K) rfl) (pv 14) pe_int (fun _ _ => rfl)) (pa_cons (pv 1) pa_nil))) (pv 4) rfl)) (fun _ _ _ _ _ => pv 14)) (pe_lst pa_nil) (nomark _)))))))))))), ?_⟩
    -- fresh
    refine ⟨_, rfl, d, _, rfl, hd, fun q hq => ?_⟩
    have s1 : Same H (upd H q (.lst (kvs.map fun kv => kV kv.1))) := (Same.refl H).put hq
    have e1 : (upd H q (.lst (kvs.map fun kv => kV kv.1))) q = some (.lst ((keys tb).map V.str)) := by rw [upd_same, keys_vals TB]
    generalize upd H q (.lst (kvs.map fun kv => kV kv.1)) = H1 at s1 e1 ⊢
    refine ⟨q, keys tb, rfl, e1, fun fr H2 _ e2 s2 => ?_⟩
    have s02 := s1.trans s2
    -- above
    refine ⟨Nat.zero_le _, fun ab hab => ?_⟩
    have hd2 := s02 _ _ hd
    have nab : ab ≠ d := (ne_of_none hd2 hab).symm
    refine ⟨d, .dK kvs, by rw [upd_ne nab.symm]; exact hd2, True.intro, fun od => ?_⟩
    have sL0 : Same (upd H2 d (.frz od (.dK kvs))) (upd (upd H2 ab (.lst [])) d (.frz od (.dK kvs))) := fun b o e => by
      by_cases hb : b = d
      · subst hb
        rw [upd_same] at e ⊢
        exact e
      · rw [upd_ne hb] at e ⊢
        rw [upd_ne (ne_of_none e hab)]
        exact e
    have eab : (upd (upd H2 ab (.lst [])) d (.frz od (.dK kvs))) ab = some (.lst []) := by rw [upd_ne nab, upd_same]
    have hdL : (upd H2 d (.frz od (.dK kvs))) d = some (.frz od (.dK kvs)) := upd_same
    have ndd : ∀ {b : Addr} {o : HO}, H2 b = some o → (∀ kvs, o ≠ .dK kvs) → (upd H2 d (.frz od (.dK kvs))) b = some o := fun {b o} e no => by
      rw [upd_ne (fun z => no kvs (by rw [z, hd2] at e; exact (Option.some.inj e).symm))]
      exact e
    have hsoL := ndd (s02 _ _ hso) (fun _ z => by cases z)
    have TBL : Tab fL (upd H2 d (.frz od (.dK kvs))) kvs tb := TB.mono fun a us e => ndd (s02 _ _ e) (fun _ z => by unfold fL at z; cases z)
    have abL : (upd H2 d (.frz od (.dK kvs))) ab = none := by rw [upd_ne nab]; exact hab
    generalize hHL : upd H2 d (.frz od (.dK kvs)) = HL at sL0 hdL hsoL TBL abL
    refine ⟨_, rfl, d, od, rfl, .inl ⟨kvs, sL0 _ _ hdL, for_it walk_keys (fun i σ Hx => ∃ v7 v8 : Option V, σ = [some (.ref p), some (.ref b), some (.ref d), some (.ref so), some (.ref srt), some (.ref fr), some (.ref ab), v7, v8, none, none, none, none, none, none] ∧ Same HL Hx ∧ Hx ab = some (.lst ((((keys tb).take i).filter (selA tb sx)).map V.str))) ?_ ?_ ?_ ?_⟩⟩
    · exact ⟨_, _, rfl, sL0, eab⟩
    · rintro i σ Hx _ ⟨v7, v8, rfl, sx', _⟩
      exact sx' _ _ hdL
    · rintro i y σ Hx Hy hi ⟨v7, v8, rfl, sm, hab'⟩ ⟨rfl, kk, vv, hkv, rfl⟩
      obtain ⟨x, hx0, rfl⟩ := key_atL TBL hkv
      have hx : x ∈ keys tb := List.mem_of_getElem? hx0
      have et : (keys tb).take (i + 1) = (keys tb).take i ++ [x] := by rw [List.take_add_one, hx0]; rfl
      have hsox := sm _ _ hsoL
      have fl : (((keys tb).take i).filter (selA tb sx)).length ≤ (keys tb).length := Nat.le_trans (List.length_filter_le _ _) (by rw [List.length_take]; omega)
      have no : ∀ {Hz : Hp}, Same Hy Hz → Hz ab = some (.lst ((((keys tb).take i).filter (selA tb sx)).map V.str)) → selA tb sx x = false → Hz ab = some (.lst ((((keys tb).take (i + 1)).filter (selA tb sx)).map V.str)) := fun _ e h => by
        rw [et, List.filter_append, List.filter_cons, if_neg (by rw [h]; decide), List.filter_nil, List.append_nil]
        exact e
      refine ⟨_, rfl, _, rfl, so, _, rfl, .inr (SqT.of hsox), rfl, flat_strs _, _, rfl, ?_⟩
      rw [if_pos rfl]
      have hin : inV (kV (Sum.inr x : Key)) (sx.map V.str) = decide (x ∈ sx) := inV_strs _ _
      rw [hin]
      by_cases hxs : x ∈ sx
      · rw [decide_eq_true hxs]
        refine iteF (iteF ⟨_, _, rfl, sm, no (Same.refl _) hab' ?_⟩)
        unfold selA
        rw [decide_eq_false (by simpa using hxs)]
        rfl
      · rw [decide_eq_false hxs]
        refine iteT ⟨_, rfl, so, rfl, ⟨_, SqT.of hsox⟩, fun D hD => ?_⟩
        refine lc_tup (K := K) (a := so) (xs := sx.map V.str) (fun j Hd => Hd D = some (.lst (((sx.take j).filter fun z => decide (x ∈ look tb z)).map V.str)) ∧ Same Hy Hd) ?_ ?_ ?_ ?_
        · exact ⟨upd_same, (Same.refl _).put hD⟩
        · rintro j Hd _ ⟨_, sd⟩
          exact SqT.of (sd _ _ hsox)
        · rintro j y Hd hy ⟨g1, sd⟩
          have hjl : j < sx.length := by
            have := (List.getElem?_eq_some_iff.mp hy).1
            rwa [List.length_map] at this
          have hzj : sx[j]? = some sx[j] := List.getElem?_eq_getElem hjl
          rw [List.getElem?_map, hzj] at hy
          have hzk := sk sx[j] (List.getElem_mem hjl)
          have ej : sx.take (j + 1) = sx.take j ++ [sx[j]] := by rw [List.take_add_one, hzj]; rfl
          generalize sx[j] = z at hzj hy hzk ej
          cases hy
          obtain ⟨u, hu1, hu2⟩ := TBL.val hzk
          have hud := sd u _ (sm u _ hu2)
          unfold fL at hud
          have fl2 : ((sx.take j).filter fun z => decide (x ∈ look tb z)).length ≤ sx.length := Nat.le_trans (List.length_filter_le _ _) (by rw [List.length_take]; omega)
          have hdx : DL Hd d kvs := .inr ⟨od, sd _ _ (sm _ _ hdL)⟩
          refine ⟨rfl, _, rfl, _, rfl, _, rfl, d, _, rfl, hdx.get hu1, u, _, rfl, .inl (SqL.of hud), rfl, flat_strs _, _, rfl, ?_⟩
          have hin2 : inV (kV (Sum.inr x : Key)) ((look tb z).map V.str) = decide (x ∈ look tb z) := inV_strs _ _
          rw [if_neg Bool.false_ne_true, hin2]
          refine ite2 (fun h => ⟨_, rfl, _, g1, ?_, ?_, sd.put hD⟩) (fun h => ⟨?_, sd⟩)
          · rw [List.length_map]; show _ < 16777216; omega
          · rw [upd_same, ej, List.filter_append, List.filter_cons, if_pos h, List.map_append]
            rfl
          · rw [ej, List.filter_append, List.filter_cons, if_neg h, List.filter_nil, List.append_nil]
            exact g1
        · rintro Hd ⟨g1, sd⟩
          rw [List.length_map, List.take_length] at g1
          refine ⟨Nat.zero_le _, fun e1' he1 => ?_⟩
          have g2 : (upd Hd e1' (.lst [])) D = some (.lst ((sx.filter fun z => decide (x ∈ look tb z)).map V.str)) := by rw [upd_ne (ne_of_none g1 he1)]; exact g1
          have s3 : Same Hy (upd Hd e1' (.lst [])) := sd.put (sd.free he1)
          refine ⟨.list _, .list [], .lst (SqL.of g2) (strs_dp _ _ _), .lst (SqL.of upd_same) .nil, strs_shaped _ fun y hy => sok y (sk y (List.mem_filter.mp hy).1), rfl, _, rfl, ?_⟩
          rw [strs_eqv0]
          have hab3 := s3 _ _ hab'
          have se : selA tb sx x = !decide ((sx.filter fun z => decide (x ∈ look tb z)) = []) := by
            unfold selA
            rw [decide_eq_true hxs, Bool.true_and]
          refine ite2 (fun h => ?_) (fun h => ?_)
          · have hs : selA tb sx x = true := se.trans h
            refine ⟨_, rfl, .inl ⟨rfl, _, SqL.of hab3⟩, _, rfl, ab, _, _, rfl, rfl, hab3, ?_, ?_⟩
            · rw [List.length_map]; show _ < 16777216; omega
            · refine ⟨_, _, rfl, fun b o e => ?_, ?_⟩
              · rw [upd_ne (ne_of_none e abL)]
                exact (sm.trans s3) b o e
              · rw [upd_same, et, List.filter_append, List.filter_cons, if_pos hs, List.map_append]
                rfl
          · have hs : selA tb sx x = false := by
              rw [se]
              exact Bool.eq_false_iff.mpr h
            exact ⟨_, _, rfl, sm.trans s3, no s3 hab3 hs⟩
    · rintro σ Hx ⟨v7, v8, rfl, sm, hab'⟩
      have hkv : kvs.length = (keys tb).length := by rw [TBL.len]; simp [keys]
      rw [hkv, List.take_length] at hab'
      refine ⟨sm _ _ hdL, ?_⟩
      have s23 : Same H2 (upd Hx d (.dK kvs)) := unlock hd2 (by rw [hHL]; exact sm)
      have eab3 : (upd Hx d (.dK kvs)) ab = some (.lst ((aboveA tb sx).map V.str)) := by rw [upd_ne nab]; exact hab'
      generalize upd Hx d (.dK kvs) = H3 at s23 eab3 ⊢
      have s03 := s02.trans s23
      have efr3 := s23 _ _ e2
      have P3 := P0.same s03
      have aal : (aboveA tb sx).length ≤ 6 := Nat.le_trans (List.length_filter_le _ _) hkl
      clear sL0 eab hdL hsoL TBL abL hHL sm hab' ndd
      -- bases
      obtain ⟨_, hd3, TB3, hso3, _, _⟩ := F0 s03.keep
      refine ⟨_, rfl, _, rfl, so, _, rfl, .inr (SqT.of hso3), fun l1 hl1 => ?_⟩
      have s34 : Same H3 (upd H3 l1 (.lst (sx.map V.str))) := (Same.refl H3).put hl1
      have e34 : (upd H3 l1 (.lst (sx.map V.str))) l1 = some (.lst (sx.map V.str)) := upd_same
      generalize upd H3 l1 (.lst (sx.map V.str)) = H4 at s34 e34 ⊢
      have P4 := P3.same s34
      refine ⟨_, rfl, _, rfl, p, c, ab, ns, n, aboveA tb sx, rfl, P4, by omega, s34 _ _ eab3, by omega, fun m1 ys1 H5 pm1 hm1 k5 P5 => ?_⟩
      refine ⟨_, rfl, p, c, ns, n + (aboveA tb sx).length, 3, rfl, P5, by omega, by decide, by decide, fun dv H6 d0 d1 k6 P6 => ?_⟩
      obtain ⟨j, rfl⟩ : ∃ j : Nat, dv = (j : Int) := ⟨dv.toNat, (Int.toNat_of_nonneg d0).symm⟩
      have hm16 := k6 _ _ hm1 (P5.strs_ne hm1)
      have hl16 := k6 _ _ (k5 _ _ e34 (P4.strs_ne e34)) (fun e => P4.strs_ne e34 e)
      refine ⟨_, rfl, m1, _, rfl, SqL.of hm16, fun m2 hm2 => ?_⟩
      rw [cut_take]
      have s67 : Same H6 (upd H6 m2 (.lst ((ys1.take j).map V.str))) := (Same.refl H6).put hm2
      have e67 : (upd H6 m2 (.lst ((ys1.take j).map V.str))) m2 = some (.lst ((ys1.take j).map V.str)) := upd_same
      generalize upd H6 m2 (.lst ((ys1.take j).map V.str)) = H7 at s67 e67 ⊢
      have ys1l := pm1.length_eq
      refine ⟨l1, m2, _, _, rfl, rfl, s67 _ _ hl16, e67, ?_, fun l3 hl3 => ?_⟩
      · rw [List.length_map, List.length_map, List.length_take]; show _ ≤ 16777216; omega
      rw [← List.map_append]
      have s78 : Same H7 (upd H7 l3 (.lst ((sx ++ ys1.take j).map V.str))) := (Same.refl H7).put hl3
      have e78 : (upd H7 l3 (.lst ((sx ++ ys1.take j).map V.str))) l3 = some (.lst ((sx ++ ys1.take j).map V.str)) := upd_same
      generalize upd H7 l3 (.lst ((sx ++ ys1.take j).map V.str)) = H8 at s78 e78 ⊢
      have P8 := (P6.same s67).same s78
      have slen : (sx ++ ys1.take j).length ≤ 12 := by rw [List.length_append, List.length_take]; omega
      refine ⟨p, c, l3, ns, n + (aboveA tb sx).length + 1, sx ++ ys1.take j, rfl, P8, by omega, e78, by omega, fun m3 bsL H9 pm3 hm3 k9 P9 => ?_⟩
      have K39 : Keep p H3 H9 := ((s34.keep.trans k5).trans (k6.trans (s67.trans s78).keep)).trans k9
      have K9 : Keep p H H9 := s03.keep.trans K39
      have efr9 := K39 _ _ efr3 (P3.strs_ne efr3)
      have P9 : Pen H9 p c ns (n + 20) := P9.mono (by omega)
      have nm3 := P9.strs_ne hm3
      -- others
      refine ⟨Nat.zero_le _, fun ol hol => ?_⟩
      have s9a : Same H9 (upd H9 ol (.lst [])) := (Same.refl H9).put hol
      have e9a : (upd H9 ol (.lst [])) ol = some (.lst (([] : List Addr).map V.ref)) := upd_same
      have nol : ol ≠ p := (P9.pne hol).symm
      generalize upd H9 ol (.lst []) = H10 at s9a e9a ⊢
      refine ⟨_, rfl, p, c, ns, n + 20, 3, rfl, P9.same s9a, by omega, by decide, by decide, fun dv2 H11 d2 d3 k11 P11 => ?_⟩
      obtain ⟨j2, rfl⟩ : ∃ j : Nat, dv2 = (j : Int) := ⟨dv2.toNat, (Int.toNat_of_nonneg d2).symm⟩
      have hj2 : j2 ≤ 2 := by omega
      have e11 := k11 _ _ e9a nol
      have K911 : Keep p H9 H11 := s9a.keep.trans k11
      have hfl : 12 ≤ (freshL (keys tb)).length := fresh_len hkl
      refine ⟨_, rfl, by omega, by omega, for_range (lo := 0) (n := j2) (fun i σ Hc => ∃ (v8 v11 v12 : Option V) (ts : List Addr) (qs : List Row), σ = [some (.ref p), some (.ref b), some (.ref d), some (.ref so), some (.ref srt), some (.ref fr), some (.ref ab), v7, v8, some (.ref m3), some (.ref ol), v11, v12, none, none] ∧
        Keep p H9 Hc ∧ Pen Hc p c ns (n + 21 + 8 * i) ∧ Hc ol = some (.lst (ts.map V.ref)) ∧ RowsAt Hc ts qs ∧ Good (rs ++ qs) ∧ qs.map (·.1) = (freshL (keys tb)).take i) ?_ ?_ ?_⟩
      · exact ⟨_, _, _, [], [], rfl, K911, P11, e11, rowsAt_nil _, by rw [List.append_nil]; exact g, rfl⟩
      · rintro i σ Hc hi ⟨v8, v11, v12, ts, qs, rfl, kc, Pc, hoc, Rc, gc, enm⟩
        have Kc := K9.trans kc
        obtain ⟨cbc, hdc, TBc, hsoc, hsrtc, hpac⟩ := F0 Kc
        have efrc := kc _ _ efr9 (P9.strs_ne efr9)
        refine ⟨_, rfl, _, rfl, d, _, rfl, hdc, fun q hq => ?_⟩
        have r1 : Same Hc (upd Hc q (.lst (kvs.map fun kv => kV kv.1))) := (Same.refl Hc).put hq
        have x1 : (upd Hc q (.lst (kvs.map fun kv => kV kv.1))) q = some (.lst ((keys tb).map V.str)) := by rw [upd_same, keys_vals TB]
        generalize upd Hc q (.lst (kvs.map fun kv => kV kv.1)) = Hd at r1 x1 ⊢
        refine ⟨p, c, q, ns, _, keys tb, rfl, Pc.same r1, by omega, x1, by omega, fun m4 ys4 He pm4 hm4 k4 P4' => ?_⟩
        refine ⟨_, rfl, p, c, ns, _, 3, rfl, P4', by omega, by decide, by decide, fun dv4 Hf d4 d5 kf Pf => ?_⟩
        obtain ⟨j4, rfl⟩ : ∃ j : Nat, dv4 = (j : Int) := ⟨dv4.toNat, (Int.toNat_of_nonneg d4).symm⟩
        have hm4f := kf _ _ hm4 (P4'.strs_ne hm4)
        refine ⟨_, _, rfl, rfl, _, rfl, m4, _, rfl, SqL.of hm4f, fun m5 hm5 => ?_⟩
        rw [show (1 + (j4 : Int)) = ((1 + j4 : Nat) : Int) by push_cast; rfl, cut_take]
        have r2 : Same Hf (upd Hf m5 (.lst ((ys4.take (1 + j4)).map V.str))) := (Same.refl Hf).put hm5
        have x2 : (upd Hf m5 (.lst ((ys4.take (1 + j4)).map V.str))) m5 = some (.lst ((ys4.take (1 + j4)).map V.str)) := upd_same
        generalize upd Hf m5 (.lst ((ys4.take (1 + j4)).map V.str)) = Hg at r2 x2 ⊢
        have Kcg : Keep p Hc Hg := ((r1.keep.trans k4).trans kf).trans r2.keep
        have hocg := Kcg _ _ hoc nol
        have efrg := Kcg _ _ efrc (Pc.strs_ne efrc)
        have Pg := Pf.same r2
        have hfi : (freshL (keys tb))[i]? = some ((freshL (keys tb))[i]'(by omega)) := List.getElem?_eq_getElem _
        generalize (freshL (keys tb))[i]'(by omega) = fi at hfi
        refine ⟨_, rfl, .inl ⟨rfl, _, SqL.of hocg⟩, _, rfl, _, rfl, fr, _, (i : Int), _, rfl, congrArg V.int (Int.zero_add _), SqL.of efrg, atI_nat (by rw [List.getElem?_map, hfi]; rfl), (by show 1 ≤ sizeLine; decide), fun t1 ht1 => ?_⟩
        have r3 : Same Hg (upd Hg t1 (.tup [V.str fi])) := (Same.refl Hg).put ht1
        have x3 : (upd Hg t1 (.tup [V.str fi])) t1 = some (.tup [V.str fi]) := upd_same
        generalize upd Hg t1 (.tup [V.str fi]) = Hh at r3 x3 ⊢
        refine ⟨_, rfl, m5, _, rfl, .inl ⟨SqL.of (r3 _ _ x2), fun t2 ht2 => ?_⟩⟩
        have r4 : Same Hh (upd Hh t2 (.tup ((ys4.take (1 + j4)).map V.str))) := (Same.refl Hh).put ht2
        have x4 : (upd Hh t2 (.tup ((ys4.take (1 + j4)).map V.str))) t2 = some (.tup ((ys4.take (1 + j4)).map V.str)) := upd_same
        generalize upd Hh t2 (.tup ((ys4.take (1 + j4)).map V.str)) = Hi at r4 x4 ⊢
        have y4l := pm4.length_eq
        refine ⟨t1, t2, _, _, rfl, rfl, r4 _ _ x3, x4, ?_, fun t3 Hj sj ht3 => ?_⟩
        · rw [List.length_map, List.length_take]; show 1 + _ ≤ 16777216; omega
        have r34 := (r3.trans r4).trans sj
        have Kcj : Keep p Hc Hj := Kcg.trans r34.keep
        have Pj := Pg.same r34
        have hocj := r34 _ _ hocg
        have tsl : ts.length = i := by
          have e := congrArg List.length enm
          rw [List.length_map, List.length_take] at e
          rw [Rc.1]
          omega
        refine ⟨ol, _, _, rfl, rfl, hocj, ?_, ?_⟩
        · rw [List.length_map, tsl]; show _ < 16777216; omega
        have moreNe : ys4.take (1 + j4) ≠ [] := by
          have h2 : 2 ≤ (keys tb).length := by
            rw [← htb, keys_ups, List.length_append]
            show 2 ≤ 2 + _
            omega
          intro e
          have := congrArg List.length e
          rw [List.length_take, List.length_nil] at this
          omega
        have moreNd : (ys4.take (1 + j4)).Nodup := (pm4.nodup_iff.mpr knd).sublist (List.take_sublist _ _)
        have moreSub : ∀ z ∈ ys4.take (1 + j4), z ∈ keys tb := fun z hz => pm4.mem_iff.mp (List.mem_of_mem_take hz)
        have RO : RowOk (base0 ++ (rs ++ qs).map (·.1)) (fi, ys4.take (1 + j4)) := by
          subst htb
          exact rowOk_new hfi enm (Nat.le_refl _) moreNe moreNd moreSub
        have nolt : ∀ (b : Addr) (xs : List V), Hj b = some (.tup xs) → b ≠ ol := fun b xs e => ne_of e hocj (by intro z; cases z)
        refine ⟨_, _, _, ts ++ [t3], qs ++ [(fi, ys4.take (1 + j4))], rfl, fun b o e hbp => ?_, ?_, ?_, ?_, ?_, ?_⟩
        · rw [upd_ne (ne_of_none e hol)]
          exact Kcj _ _ (kc _ _ e hbp) hbp
        · exact ((Pj.upd' nol.symm (ne_of_none P9.cells hol)).mono (by omega))
        · rw [upd_same, List.map_append]
          rfl
        · refine ((Rc.keep Pc Kcj).snoc ?_).mono fun b r e => ?_
          · exact ht3
          · rw [upd_ne (nolt _ _ e)]
            exact e
        · rw [← List.append_assoc]
          exact good_snoc gc RO
        · rw [List.map_append, enm, List.take_add_one, hfi]
          rfl
      · rintro σ Hc ⟨v8, v11, v12, ts, qs, rfl, kc, Pc, hoc, Rc, gc, enm⟩
        have Kc := K9.trans kc
        obtain ⟨cbc, hdc, TBc, hsoc, hsrtc, hpac⟩ := F0 Kc
        have efrc := kc _ _ efr9 (P9.strs_ne efr9)
        have em3 := kc _ _ hm3 nm3
        have hql : qs.length = j2 := by
          have e := congrArg List.length enm
          rw [List.length_map, List.length_take] at e
          omega
        have hf4 : (freshL (keys tb))[4]? = some ((freshL (keys tb))[4]'(by omega)) := List.getElem?_eq_getElem _
        generalize (freshL (keys tb))[4]'(by omega) = f4 at hf4
        have cbc' := cbc
        obtain ⟨dx, r0, n0, l0, kvs0, ts0, c1, _, _, _, c5, c6⟩ := cbc'
        refine ⟨rfl, _, rfl, b, C, dx, _, _, rfl, c1, Y.cl, Y.nR, flds_rows _ _ _, r0, _, rfl, .inr (SqT.of c5), fun l4 hl4 => ?_⟩
        have r1 : Same Hc (upd Hc l4 (.lst (ts0.map V.ref))) := (Same.refl Hc).put hl4
        have x1 : (upd Hc l4 (.lst (ts0.map V.ref))) l4 = some (.lst (ts0.map V.ref)) := upd_same
        generalize upd Hc l4 (.lst (ts0.map V.ref)) = Hd at r1 x1 ⊢
        refine ⟨_, rfl, l4, ol, _, _, rfl, rfl, x1, r1 _ _ hoc, ?_, fun l5 hl5 => ?_⟩
        · rw [List.length_map, List.length_map, c6.1, Rc.1]; show _ ≤ 16777216; omega
        have r2 : Same Hd (upd Hd l5 (.lst (ts0.map V.ref ++ ts.map V.ref))) := (Same.refl Hd).put hl5
        have x2 : (upd Hd l5 (.lst (ts0.map V.ref ++ ts.map V.ref))) l5 = some (.lst (ts0.map V.ref ++ ts.map V.ref)) := upd_same
        generalize upd Hd l5 (.lst (ts0.map V.ref ++ ts.map V.ref)) = He at r2 x2 ⊢
        have r12 := r1.trans r2
        refine ⟨_, rfl, fr, _, _, _, rfl, rfl, SqL.of (r12 _ _ efrc), atI_nat (j := 4) (by rw [List.getElem?_map, hf4]; rfl), (by show 1 ≤ sizeLine; decide), fun t1 ht1 => ?_⟩
        have r3 : Same He (upd He t1 (.tup [V.str f4])) := (Same.refl He).put ht1
        have x3 : (upd He t1 (.tup [V.str f4])) t1 = some (.tup [V.str f4]) := upd_same
        generalize upd He t1 (.tup [V.str f4]) = Hf at r3 x3 ⊢
        have r13 := r12.trans r3
        refine ⟨_, rfl, m3, _, rfl, .inl ⟨SqL.of (r13 _ _ em3), fun t2 ht2 => ?_⟩⟩
        have r4 : Same Hf (upd Hf t2 (.tup (bsL.map V.str))) := (Same.refl Hf).put ht2
        have x4 : (upd Hf t2 (.tup (bsL.map V.str))) t2 = some (.tup (bsL.map V.str)) := upd_same
        generalize upd Hf t2 (.tup (bsL.map V.str)) = Hg at r4 x4 ⊢
        have bll := pm3.length_eq
        refine ⟨t1, t2, _, _, rfl, rfl, r4 _ _ x3, x4, ?_, fun t3 Hh sh ht3 => ?_⟩
        · rw [List.length_map]; show 1 + _ ≤ 16777216; omega
        have r14 := (r13.trans r4).trans sh
        refine ⟨(by show 1 ≤ sizeLine; decide), fun l6 hl6 => ?_⟩
        have r5 : Same Hh (upd Hh l6 (.lst [V.ref t3])) := (Same.refl Hh).put hl6
        have x5 : (upd Hh l6 (.lst [V.ref t3])) l6 = some (.lst [V.ref t3]) := upd_same
        generalize upd Hh l6 (.lst [V.ref t3]) = Hi at r5 x5 ⊢
        have x2i : Hi l5 = some (.lst (ts0.map V.ref ++ ts.map V.ref)) := (((r3.trans r4).trans sh).trans r5) _ _ x2
        refine ⟨l5, l6, _, _, rfl, rfl, x2i, x5, ?_, fun l7 hl7 => ?_⟩
        · rw [List.length_append, List.length_map, List.length_map, c6.1, Rc.1]; show _ + 1 ≤ 16777216; omega
        rw [show (ts0.map V.ref ++ ts.map V.ref) ++ [V.ref t3] = (ts0 ++ (ts ++ [t3])).map V.ref by simp]
        have r6 : Same Hi (upd Hi l7 (.lst ((ts0 ++ (ts ++ [t3])).map V.ref))) := (Same.refl Hi).put hl7
        have x6 : (upd Hi l7 (.lst ((ts0 ++ (ts ++ [t3])).map V.ref))) l7 = some (.lst ((ts0 ++ (ts ++ [t3])).map V.ref)) := upd_same
        generalize upd Hi l7 (.lst ((ts0 ++ (ts ++ [t3])).map V.ref)) = Hj at r6 x6 ⊢
        have r56 := r5.trans r6
        have r16 : Same Hc Hj := r14.trans r56
        have bNe : bsL ≠ [] := by
          intro e
          rw [e, List.length_append] at bll
          have := List.length_pos_iff.mpr sne
          simp at bll
          omega
        have ysub : ∀ z ∈ ys1.take j, z ∈ aboveA tb sx := fun z hz => pm1.mem_iff.mp (List.mem_of_mem_take hz)
        have bNd : bsL.Nodup := by
          refine pm3.nodup_iff.mpr (List.nodup_append.mpr ⟨sL.nd, (pm1.nodup_iff.mpr (knd.filter _)).sublist (List.take_sublist _ _), ?_⟩)
          intro a ha b' hb' e
          subst e
          exact (mem_aboveA (ysub _ hb')).2.1 ha
        have bOr : ∀ z ∈ bsL, z ∈ sx ∨ ∃ one ∈ sx, z ∈ look tb one := fun z hz => by
          rcases List.mem_append.mp (pm3.mem_iff.mp hz) with h | h
          · exact .inl h
          · exact .inr (mem_aboveA (ysub z h)).2.2
        have bSub : ∀ z ∈ bsL, z ∈ keys tb := fun z hz => by
          rcases List.mem_append.mp (pm3.mem_iff.mp hz) with h | h
          · exact sk z h
          · exact (mem_aboveA (ysub z h)).1
        have sIn : ∀ z ∈ sx, z ∈ bsL := fun z hz => pm3.mem_iff.mpr (List.mem_append_left _ hz)
        have f4n : f4 ∉ keys tb := (fresh_mem (List.mem_of_getElem? hf4)).1
        subst htb
        have gw : Good (rs ++ (qs ++ [(f4, bsL)])) := by
          rw [← List.append_assoc]
          exact good_snoc gc (rowOk_new hf4 enm (by omega) bNe bNd bSub)
        have lw : (rs ++ (qs ++ [(f4, bsL)])).length ≤ 30 := by
          rw [List.length_append, List.length_append, hql]
          show _ + (_ + 1) ≤ 30
          omega
        have Rw : RowsAt Hj (ts0 ++ (ts ++ [t3])) (rs ++ (qs ++ [(f4, bsL)])) := (c6.mono fun b r e => r16 _ _ e).app ((Rc.mono fun b r e => r16 _ _ e).snoc (r56 _ _ ht3))
        refine ⟨l7, ts0 ++ (ts ++ [t3]), rs ++ (qs ++ [(f4, bsL)]), rfl, x6, Rw, gw, lw, fun wh Hk cw sk' => ?_⟩
        have r1k := r16.trans sk'
        have cbk := cbc.same r1k
        have Pk := Pc.same r1k
        obtain ⟨dxw, fsw, hw1, hw2⟩ := cw.ins
        have hw2k := hw2 "kind_of" (by decide +kernel) (by decide +kernel) (by decide +kernel)
        have kx : ∀ r ∈ qs ++ [(f4, bsL)], r.1 ∈ keys (ups (rs ++ (qs ++ [(f4, bsL)]))) := fun r hr' => by
          rw [keys_ups, List.map_append]
          exact List.mem_append_right _ (List.mem_append_right _ (List.mem_map_of_mem hr'))
        refine ⟨_, rfl, wh, dxw, fsw, rfl, hw1, hw2k, _, rfl, fr, _, _, _, rfl, rfl, SqL.of (r1k _ _ efrc), atI_nat (j := 4) (by rw [List.getElem?_map, hf4]; rfl), _, rfl, wh, b, f4, _, rs, rfl, cw.at, cbk, kx (f4, bsL) (by simp), by omega, fun yk r Hl L _ hrt sl => ?_⟩
        obtain rfl := later_kind gw sk sL bOr sIn f4n L
        have tf : (tD yk).shown.length ≤ sizeLine := tD_fits (fun y hy => sok y (sk y hy)) (fun y hy => s8 y (sk y hy)) (by omega)
        have td8 : (tD yk).depth ≤ 8 := by rw [tD_depth]; decide
        refine ⟨r, tD yk, rfl, .tup (SqT.of hrt) (strs_dp _ _ _), tD_show _, tD_nodict _, td8, tf, _, rfl, so, tD yk, rfl, .tup (SqT.of (sl _ _ (r1k _ _ hsoc))) (strs_dp _ _ _), tD_show _, tD_nodict _, td8, tf, rfl, _, rfl, iteNS rfl ?_⟩
        have r1l := r1k.trans sl
        have hocl := r1l _ _ hoc
        refine ⟨_, rfl, ol, rfl, ⟨_, SqL.of hocl⟩, fun Dd hDd => ?_⟩
        refine lc_list (K := K) (a := ol) (xs := ts.map V.ref) (fun i Hx => Hx Dd = some (.lst []) ∧ Same Hl Hx) ?_ ?_ ?_ ?_
        · exact ⟨upd_same, (Same.refl Hl).put hDd⟩
        · rintro i Hx _ ⟨_, sx'⟩
          exact SqL.of (sx' _ _ hocl)
        · rintro i y Hx hy ⟨hDx, sx'⟩
          have hil : i < ts.length := by
            have := (List.getElem?_eq_some_iff.mp hy).1
            rwa [List.length_map] at this
          have e1' : ts[i]? = some ts[i] := List.getElem?_eq_getElem hil
          have e2' : qs[i]? = some (qs[i]'(by rw [← Rc.1]; exact hil)) := List.getElem?_eq_getElem _
          rw [List.getElem?_map, e1'] at hy
          generalize ts[i] = t at e1' hy
          generalize qs[i]'(by rw [← Rc.1]; exact hil) = rw' at e2'
          cases hy
          have r1x := r1l.trans sx'
          have ht := r1x _ _ (Rc.2 i t rw' e1' e2')
          have kxr := kx rw' (List.mem_append_left _ (List.mem_of_getElem? e2'))
          obtain ⟨xr, br⟩ := rw'
          unfold rowO at ht
          have cwx := (cw.same sl).same sx'
          have cbx := cbc.same r1x
          obtain ⟨dxx, fsx, hx1, hx2⟩ := cwx.ins
          have hx2k := hx2 "kind_of" (by decide +kernel) (by decide +kernel) (by decide +kernel)
          refine ⟨rfl, _, rfl, wh, dxx, fsx, rfl, hx1, hx2k, _, rfl, t, _, _, _, rfl, rfl, SqT.of ht, atI_nat (j := 0) rfl, _, rfl, wh, b, xr, _, rs, rfl, cwx.at, cbx, kxr, by omega, fun yr r' Ho L' _ hrt' so' => ?_⟩
          have hin : yr ∈ ys := later_in gw KO kxr L'
          have yk' := (KO.mem yr).mp hin
          have r1o := r1x.trans so'
          have okys : ∀ y ∈ ys, ∀ x ∈ y, sOk x = true := fun y hy x hx => sok x (((KO.mem y).mp hy).2.1 x hx)
          refine ⟨_, rfl, tD yr, ys.map tD, .tup (SqT.of hrt') (strs_dp _ _ _), .tup (SqT.of (r1o _ _ hsrtc)) (PAt.dp _ _ _ (hpac.same fun b o _ e => r1o _ _ e)), tD_shaped _ (okys yr hin), tDs_shaped ys okys, by rw [tD_depth]; decide, _, rfl, ?_⟩
          rw [any_tD, decide_eq_true hin]
          exact iteF ⟨so' _ _ hDx, sx'.trans so'⟩
        · rintro Hx ⟨hDx, sx'⟩
          refine ⟨Nat.zero_le _, fun e1' he1 => ?_⟩
          have sE : Same Hx (upd Hx e1' (.lst [])) := (Same.refl Hx).put he1
          have rE := (r1l.trans sx').trans sE
          refine ⟨.list [], .list [], .lst (SqL.of (sE _ _ hDx)) .nil, .lst (SqL.of upd_same) .nil, rfl, rfl, ?_⟩
          exact k _ (Kc.trans rE.keep) ((Pc.same rE).mono (by omega))
end
end K2
end
section
set_option Elab.async false
set_option maxRecDepth 100000
set_option linter.all false
namespace K2
open PySem PySem.Spec PyProof.Rows L2
def tLenSetL (ta : TE) : TE := fun σ H Q => ta σ H fun x H1 => ∃ (l : Addr) (xs : List Str), x = .ref l ∧ H1 l = some (.lst (xs.map V.str)) ∧ xs.length ≤ 1000 ∧ ∀ ys : List Str, ys.Nodup → (∀ y, y ∈ ys ↔ y ∈ xs) → Q (.int (ys.length : Nat)) H1
/-- len(set(l)), l a list of texts -/
theorem pe_lenSetL {X : Cx} {a : Expr} {ta : TE} {p1 p2 p3 pos : Pos} (h1 : Gl X "len") (h2 : X.mg "len" = none) (h3 : Gl X "set") (h4 : X.mg "set" = none) (ha : PE X a ta) (hc : X.calm = true := by rfl)
    (na : starEach [a] X.env = (false, eval a X.env) :: starEach [] X.env := by rfl) : PE X (.Call (.Name "len" p1) [.Call (.Name "set" p2) [a] [] p3] [] pos) (tLenSetL ta) := by
  refine ⟨fun pins s σ H Q I h => Call_ (ld_blt I h1 h2 boot_len (callWith_builtin1 (args_cons (Call_ (ld_blt I h3 h4 boot_set (callWith_type1 (args_cons (thn (ha.run pins s σ H _ I h) fun v s1 ⟨x, H1, I1, r1, q1⟩ => args_nil ?_) na) na rfl))) rfl) rfl rfl))⟩
  obtain ⟨l, xs, rfl, hl, few, q⟩ := q1
  cases r1
  obtain ⟨its, r, pl, _⟩ := I1.list (SqL.of hl)
  have hx : StrsAre its xs := by simpa using strsAre_of r
  refine set_of_lst (I1.ok.hd hc) pl.isList (by simpa using hx) few fun h' tk hS hk => args_nil ?_
  obtain ⟨D, ys, hD, W, nd, hl2, hm⟩ := hS
  have I2 : Inv X pins σ H1 { s1 with heap := h', toks := tk } := I1.kept fun b o e => hk b o (Heap.lt_size e) e
  have sz := W.ok.sz
  refine call_len_set hD ⟨rfl, rfl, rfl⟩ rfl W.ok.fit (by omega) ⟨.int ys.length, H1, I2.tok _, ⟨_, by rw [sz]⟩, q ys nd hm⟩
end K2
end
section
set_option Elab.async false
set_option maxRecDepth 100000
set_option linter.all false
namespace K2
open PySem L2 LamX PySem.Spec PyProof.Rows
abbrev sPen : Stmt := top 28
abbrev sLaw : Stmt := top 42
def spPen (K : PySem.W.Frag) : Sp := fun vs H Q _ => ∃ (a : Addr) (ns : List Int), vs = [.ref a] ∧ SqL K H a (ns.map V.int) ∧ ns.length ≤ 63 ∧ ∀ (p c : Addr) (H' : Hp), Pen H' p c ns 0 → Same H H' → Q (.ref p) H'
def spLaw (K : PySem.W.Frag) (PT : Addr) : Sp := fun vs H Q _ => ∃ (a : Addr) (ns : List Int), vs = [.ref a] ∧ SqL K H a (ns.map V.int) ∧ ns.length ≤ 63 ∧ H PT = some (.tbl #[]) ∧ ∀ H', Q (.bl true) H'
theorem cut63 (ns : List Int) (h : ns.length ≤ 63) : cutV (ns.map V.int) none (some 63) = ns.map V.int := by
  unfold cutV
  rw [show (63 : Int) = ((63 : Nat) : Int) from rfl, HT.sIx_nat, HT.sIx_none, List.drop_zero, Nat.sub_zero, List.length_map, Nat.min_eq_right h]
  rw [List.take_of_length_le (by rw [List.length_map]; exact Nat.le_refl _)]
abbrev nLaw : List Str := ["_law_script", "_law_pen_here", "_law_words_here", "_law_rows_here", "_law_word", "_law_built", "_law_uppers_here", "_law_sorts", "_law_met", "_law_one", "_law_name", "_law_sort_so", "_law_fresh_here", "_law_heard_here"]
def scM1 : Scope := { kind := .function, names := [(Str.ofString ".0", .local), (Str.ofString "_law_one", .cell), (Str.ofString "repr", .globalImplicit), (Str.ofString "_law_built", .cell), (Str.ofString "_law_uppers_here", .cell)], isGenerator := false, isCoroutine := false }
theorem passF {P : Program} {w : World} {X : Cx} : Passes (L2.CX P w) X (fun _ _ _ => False) := fun _ _ _ _ _ _ _ h => by
  obtain ⟨_, _, _, _, _, _, _, _, _, _, _, _, hE⟩ := h
  exact hE.elim
theorem call_reprDK {X : Cx} {K' : PySem.W.Frag} (hK : X.K = K') (gu : X.A.guards = some []) (hu : X.A.units + 64 < cLine) : CallR X (.builtin "repr") (rReprD K') := by
  subst hK
  exact call_reprD gu hu
theorem ninesigns_long : 8 < (Str.ofString "ninesigns").length := by decide +kernel
def cD (n : Nat) : PyData := .tuple [.str "CLASS", .str "row", .int n]
/-- what stands while the law goes on -/
structure Fx (C : Addr) (H : Hp) (b d r lq : Addr) (us : List Row) (kvs : List (Key × V)) (tl bs : List Addr) (ys : List (List Str)) : Prop where
  cw : ClsW C H b us
  hd : H d = some (.dK kvs)
  tb : Tab fL H kvs (ups us)
  hr : H r = some (.tup (bs.map V.ref))
  pa : PAt H bs ys
  hl : H lq = some (.lst (tl.map V.ref))
  R : RowsAt H tl us
section
variable {C b d r lq : Addr} {us : List Row} {kvs : List (Key × V)} {tl bs : List Addr} {ys : List (List Str)} {H H' : Hp}
theorem Fx.same (h : Fx C H b d r lq us kvs tl bs ys) (s : Same H H') : Fx C H' b d r lq us kvs tl bs ys :=
  ⟨h.cw.same s, s _ _ h.hd, h.tb.mono fun a us e => s _ _ e, s _ _ h.hr, h.pa.same fun b o _ e => s _ _ e, s _ _ h.hl, h.R.mono fun b r e => s _ _ e⟩
theorem Fx.keep {p c : Addr} {ns : List Int} {n : Nat} (h : Fx C H b d r lq us kvs tl bs ys) (P : Pen H p c ns n) (s : Keep p H H') : Fx C H' b d r lq us kvs tl bs ys :=
  ⟨h.cw.kp s P, s _ _ h.hd (P.dict_ne h.hd), h.tb.mp s (fun us e => P.strs_ne e rfl), s _ _ h.hr (P.tup_ne h.hr), h.pa.kp P s, s _ _ h.hl (P.refs_ne h.hl), h.R.keep P s⟩
theorem Fx.ext (h : Fx C H b d r lq us kvs tl bs ys) (s : ExtN H H') : Fx C H' b d r lq us kvs tl bs ys :=
  ⟨h.cw.extN s, s _ _ h.hd (fun ps z => by cases z), h.tb.mono fun a us e => s _ _ e (fun ps z => by unfold fL at z; cases z), s _ _ h.hr (fun ps z => by cases z), h.pa.same fun b o hb e => by
    obtain ⟨xs, _, e2⟩ := h.pa.mem hb
    rw [e2] at e
    cases e
    exact s _ _ e2 (fun ps z => by cases z), s _ _ h.hl (fun ps z => by cases z), h.R.mono fun b r e => s _ _ e (fun ps z => by unfold rowO at z; cases z)⟩
end
theorem cD_ok : ∀ n : Nat, n ≤ 6 → (cD n).showable = true ∧ (cD n).hasDict = false ∧ (cD n).depth ≤ 8 ∧ (cD n).shown.length ≤ sizeLine
  | 0, _ => by decide +kernel
  | 1, _ => by decide +kernel
  | 2, _ => by decide +kernel
  | 3, _ => by decide +kernel
  | 4, _ => by decide +kernel
  | 5, _ => by decide +kernel
  | 6, _ => by decide +kernel
  | n + 7, h => by omega
theorem cD_dp {K : PySem.W.Frag} {H : Hp} {t : Addr} {n : Nat} (h : H t = some (.tup [.str "CLASS", .str "row", .int (n : Int)])) : Dp K H (.ref t) (cD n) := .tup (SqT.of h) (.cons (.str _) (.cons (.str _) (.cons (.int _) .nil)))
def metT (tb : Tb) (y : List Str) : Str := (boolsD (metD tb y)).shown
theorem metT_nd {tb : Tb} (T : TOk tb) (tr : Tra tb) {ys : List (List Str)} (k : KindsOf tb ys) : (ys.map (metT tb)).Nodup := by
  unfold List.Nodup
  rw [List.pairwise_map]
  refine List.Pairwise.imp_of_mem (fun {a b} ha hb ne e => ne ?_) k.nd
  obtain ⟨_, a1, a2⟩ := (k.mem a).mp ha
  obtain ⟨_, b1, b2⟩ := (k.mem b).mp hb
  exact met_inj T tr a1 b1 a2 b2 (bools_inj (by unfold metD; simp) e)
section
variable {P : Program} {w : World} {K : PySem.W.Frag} {mg : Str → Option Value} {base : Heap}
theorem okGc {x qual : Str} {st : Stmt} {f c : Addr} {fd : FuncData} {N ps : List Str} {k : Nat} {sp : Sp} (F : Fun K x qual st f fd) (hc : fd.code = .ref c) (S : FnScope N ps (defScope st)) (len : ∀ vs H Q E, sp vs H Q E → vs.length = ps.length)
    (body : ∀ (A : Around) (outer : List Env) (s : Shared) (H : Hp) (vs : List V) (Q : VK) (E : XK), Room k (A.deeper (PyProof.Rows.envOfC qual (defScope st) s.heap.objs.size f (.ref c))) → A.guards = some [] → sp vs H Q E →
      ∃ t, PSs (cxOf CX0 P w K mg base N qual (defScope st) f (.ref c) A outer s H E).nox (defBody st) t ∧ t { nx := fun _ H' => Q .non H', rt := Q } (start N vs) H) : FnG P w K mg base (k + 1) f fd ps sp := by
  obtain ⟨oc, od, kV, doc, pm, an, cdv, ct, osl, rfl, lk, hcd⟩ := F.ex
  obtain rfl : cdv = .ref c := hc
  refine ⟨len, fun A outer s H args us vs Q E hr hg e0 hb rv hs => ?_⟩
  refine StX.run_bnd (G := fun xs H2 => xs = vs ∧ H2 = H) lk hcd S hr e0 (fun A' Ex Q' h => hb _ _ _ _ (h s H vs us e0 Un.refl rfl (fun _ _ z => z) rv (len _ _ _ _ hs) ⟨rfl, rfl⟩)) fun s2 H2 xs ⟨e1, e2⟩ hr2 => ?_
  subst e1 e2
  obtain ⟨t, h1, h2⟩ := body A outer s2 _ _ Q E hr2 hg hs
  exact ⟨t, h1.nox, h2⟩
theorem scPen : FnScope ["_law_script"] ["_law_script"] (defScope sPen) := ⟨rfl, rfl, rfl, by decide +kernel, rfl, by decide +kernel, by decide +kernel⟩
theorem scLaw : FnScope nLaw ["_law_script"] (defScope sLaw) := ⟨rfl, rfl, rfl, by decide +kernel, rfl, by decide +kernel, by decide +kernel⟩
theorem ok_pen {f : Addr} {fd : FuncData} (F : Fun K "_law_pen" "_law_pen" sPen f fd) (T : Bi mg) : FnOk P w K mg base CX0 1 f fd ["_law_script"] (spPen K) := by
  refine F.ok scPen (fun vs H Q E h => ?_) (fun cdv A outer s H vs Q E hr h => ?_)
  · obtain ⟨a, ns, rfl, _⟩ := h
    rfl
  · obtain ⟨a, ns, rfl, hS, hl, k⟩ := h
    refine ⟨_, (pss_one (ps_ret (pe_lst (pa_cons (pe_callTy call_list_of (by rfl) T.list (by decide +kernel) (pa_cons (pe_slice sl_list (pv 0) po_none (po_some pe_int)) pa_nil)) (pa_cons pe_int (pa_cons pe_int pa_nil)))))), ?_⟩
    refine ⟨_, rfl, _, rfl, a, _, rfl, hS, fun q hq => ⟨q, _, rfl, .inl (SqL.of upd_same), fun c hc => ⟨(by show 3 ≤ sizeLine; decide), fun p hp => ?_⟩⟩⟩
    rw [cut63 ns hl] at hc hp ⊢
    have hcp : c ≠ p := ne_of_none upd_same hp
    have s1 := ((Same.refl H).put (o := .lst (ns.map V.int)) hq)
    have s2 := s1.put (o := .lst (ns.map V.int)) (s1.free hc)
    exact k p c _ ⟨⟨0, 0, upd_same, by decide, by decide, by decide⟩, by rw [upd_ne hcp, upd_same], hl⟩ (s2.put (s2.free hp))
set_option maxHeartbeats 2000000 in
theorem ok_law {f fPn fD fP fB fR fU fHe fF fLt fTw fM fKi fMe fWR pM C CT CN c PT : Addr} {mc : Value} {cl : Str → Addr} {fd fdPn fdD fdP fdB fdR fdU fdHe fdF fdLt fdTw fdM fdKi fdMe : FuncData} (F : Fun K "law" "law" sLaw f fd) (hc : fd.code = .ref c) (TB : TabB base mg c PT) (T : Bi mg) (tVE : mg "ValueError" = none) (hcl : ∀ x ∈ errs, mg x = some (.ref (cl x))) (hCls : OfClass K cl CN) (Y : Txt K mg C)
    (PN : Df K mg "_law_pen" sPen fPn fdPn ["_law_script"]) (GPn : FnOk P w K mg base CX0 1 fPn fdPn ["_law_script"] (spPen K))
    (D : Df K mg "_law_draw" sDraw fD fdD ["_law_pen_here", "_law_many"]) (GD : FnOk P w K mg base CX0 1 fD fdD ["_law_pen_here", "_law_many"] spDraw) (PK : Df K mg "_law_pick" sPick fP fdP ["_law_pen_here", "_law_some"]) (GP : FnOk P w K mg base CX0 2 fP fdP ["_law_pen_here", "_law_some"] spPick)
    (BE : Df K mg "_law_begun" sBegun fB fdB ["_law_pen_here", "_law_many"]) (GB : FnOk P w K mg base CX0 4 fB fdB ["_law_pen_here", "_law_many"] spBegun) (RS : Df K mg "_law_rows" sRows fR fdR ["_law_pen_here", "_law_words_here"]) (GR : FnOk P w K mg base CX0 4 fR fdR ["_law_pen_here", "_law_words_here"] spRows)
    (UP : Df K mg "_law_uppers" sUppers fU fdU ["_law_rows_here"]) (GU : FnOk P w K mg base CX0 1 fU fdU ["_law_rows_here"] spUppers)
    (HE : Df K mg "_law_heard" sHeard fHe fdHe ["_law_ask"]) (FR : Df K mg "_law_fresh" sFresh fF fdF ["_law_names"]) (GF : FnOk P w K mg base CX0 1 fF fdF ["_law_names"] spFresh)
    (LR : Df K mg "_law_later_right" sLR fLt fdLt ["_law_pen_here", "_law_built", "_law_uppers_here", "_law_sort_so", "_law_sorts"]) (GL : FnG P w K mg base 7 fLt fdLt ["_law_pen_here", "_law_built", "_law_uppers_here", "_law_sort_so", "_law_sorts"] (spLR C))
    (TW : Df K mg "_law_twice_right" sTW fTw fdTw ["_law_pen_here", "_law_built", "_law_names", "_law_fresh_here"]) (GTw : FnOk P w K mg base CX0 7 fTw fdTw ["_law_pen_here", "_law_built", "_law_names", "_law_fresh_here"] (spTW C))
    (mKi : Meth K C "kinds" fKi) (GKi : FnOk P w K mg base (L2.CX P w) 4 fKi fdKi ["self"] (spKinds C CT)) (bKi : Binds K fdKi ["self"] [])
    (mMe : Meth K C "meets" fMe) (GMe : FnOk P w K mg base CX0 3 fMe fdMe ["self", "kind", "names"] (spMeets C true)) (bMe : Binds K fdMe ["self", "kind", "names"] [])
    (mWR : Meth K C "with_rows" fWR) (GWX : FnR P w K mg base (L2.CX P w) 6 fWR (spWRXr K C CN))
    (cR : ClX.CRead K C mc) (cM : ClX.CMet K C mc "made" pM fM) (GM : FnOk P w K mg base CX0 6 fM fdM ["cls", "rows"] (spMade C)) (bM : Binds K fdM ["cls", "rows"] []) : FnG P w K mg base 9 f fd ["_law_script"] (spLaw K PT) := by
  obtain ⟨hoc, hod, hkV, hdoc, hpm, han, hcdv, hct, hosl, rfl, hlk, hhcd⟩ := HE.F.ex
  refine okGc F hc scLaw (fun vs H Q E h => ?_) (fun A outer s H vs Q E hr gu h => ?_)
  · obtain ⟨a, ns, rfl, _⟩ := h
    rfl
  · obtain ⟨a, ns, rfl, hS, hl, hPT, k⟩ := h
    have hu := hu_of hr
    have hr1 : Room 1 _ := hr.mono (by decide)
    have hr2 : Room 2 _ := hr.mono (by decide)
    have hr3 : Room 3 _ := hr.mono (by decide)
    have hr4 : Room 4 _ := hr.mono (by decide)
    have hr6 : Room 6 _ := hr.mono (by decide)
    have hr7 : Room 7 _ := hr.mono (by decide)
    refine ⟨_, (pss_cons (ps_set (i := 1) scLaw.nd rfl (Or.inr rfl) (pe_call GPn hr1 (by rfl) PN.m PN.F.kp PN.b .nil pass0 (pa_cons (pv 0) pa_nil)))
      (pss_cons (ps_set (i := 2) scLaw.nd rfl (Or.inl rfl) (pe_call GB hr4 (by rfl) BE.m BE.F.kp BE.b .nil pass0 (pa_cons (pv 1) (pa_cons (pe_call GP hr2 (by rfl) PK.m PK.F.kp PK.b .nil pass0 (pa_cons (pv 1) (pa_cons (pe_lst (pa_cons pe_int (pa_cons pe_int (pa_cons pe_int (pa_cons pe_int (pa_cons pe_int (pa_cons pe_int pa_nil))))))) pa_nil))) pa_nil))))
      (pss_cons (ps_set (i := 3) scLaw.nd rfl (Or.inl rfl) (pe_call GR hr4 (by rfl) RS.m RS.F.kp RS.b .nil pass0 (pa_cons (pv 1) (pa_cons (pv 2) pa_nil))))
      (pss_cons (ps_if (pt_cmpR op_eq (pe_call GD hr1 (by rfl) D.m D.F.kp D.b .nil pass0 (pa_cons (pv 1) (pa_cons pe_int pa_nil))) pe_int (nomark _))
          (pss_one (ps_setLc (i := 3) (own := [("_law_word", 4)]) (g := gName 4) (tt := tYes) rfl scLaw.nd rfl rfl (sw_true rfl rfl rfl (by decide +kernel)) (pi_list (pv 2)) (blkOk_by (N := nLaw) (sc := defScope sLaw) (by decide +kernel)) (fun _ _ _ _ _ => pg_name (i := 4) scLaw.nd rfl (Or.inl rfl)) (fun _ _ _ _ _ => pts_nil)
            (fun _ _ _ _ _ => pe_tup (pa_cons (pv 4) (pa_cons (pe_call GP hr2 (by rfl) PK.m PK.F.kp PK.b .nil pass0 (pa_cons (pv 1) (pa_cons (pe_lst (pa_cons pe_str (pa_cons pe_str (pa_cons pe_str pa_nil)))) pa_nil))) pa_nil))))) pss_nil)
      (pss_cons (ps_asg (pe_tup (pa_cons (ClX.pe_cmeth (pe_glob (v := .ref C) rfl Y.mgC rfl) cR cM (GM.raw bM .nil) hr6 pass0 (pa_cons (pv 3) pa_nil)) (pa_cons (pe_call GU hr1 (by rfl) UP.m UP.F.kp UP.b .nil pass0 (pa_cons (pv 3) pa_nil)) pa_nil))) (pg_tup rfl (pgs_cons (pg_name (i := 5) scLaw.nd rfl (Or.inr rfl)) (pgs_cons (pg_name (i := 6) scLaw.nd rfl (Or.inr rfl)) pgs_nil))))
      (pss_cons (ps_set (i := 7) scLaw.nd rfl (Or.inr rfl) (pe_meth0 (pv 5) Y.cl mKi GKi hr4 bKi .nil passF))
      (pss_cons (ps_lock (ps_setLc (i := 8) (own := [("_law_one", 9)]) (g := gName 9) (tt := tYes) rfl scLaw.nd rfl rfl (sw_true rfl rfl rfl (by decide +kernel)) (pi_tup (pv 7)) (blkOk_by (N := nLaw) (sc := defScope sLaw) (by decide +kernel)) (fun _ _ _ _ _ => pg_name (i := 9) scLaw.nd rfl (Or.inr rfl)) (fun _ _ _ _ _ => pts_nil)
          (fun _ _ _ _ _ => pe_callB (call_reprDK (K' := K) rfl gu hr.units) (by rfl) T.repr (by decide +kernel) (pa_cons
            (pe_lc (own := [("_law_name", 10)]) (g := gName 10) (tt := tYes) rfl scLaw.nd (pi_keys (pv 6)) (blkOk_by (N := nLaw) (sc := scM1) (by decide +kernel)) (fun _ _ _ _ _ => pg_name (i := 10) scLaw.nd rfl (Or.inl rfl)) (fun _ _ _ _ _ => pts_nil)
              (fun _ _ _ _ _ => pe_meth (pv 5) Y.cl mMe GMe hr3 bMe .nil pass0 (pa_cons (pv 9) (pa_cons (pe_lst (pa_cons (pv 10) pa_nil)) pa_nil)))) pa_nil))))
      (pss_cons (ps_if (PW.pt (pw_or (pt_not (pt_val (pe_callB call_isi (by rfl) T.isinstance (by decide +kernel) (pa_cons (pv 7) (pa_cons (pe_bltn (v := .ty "tuple") (by rfl) T.tuple (by decide +kernel) rfl) pa_nil)))))
          (pw_or1 (pt_cmpR op_ne (pe_lenSetL (by rfl) T.len (by rfl) T.set (pv 8)) (pe_callB call_len_seq (by rfl) T.len PySem.boot_len (pa_cons (pv 7) pa_nil)) (nomark _))))) (pss_one (ps_ret pe_bl)) pss_nil)
      (pss_cons (ps_if (pt_cmpR (op_neD hr.units) (pe_lock (pe_lc (own := [("_law_name", 10)]) (g := gName 10) rfl scLaw.nd (pi_keys (pv 6)) (blkOk_by (N := nLaw) (sc := defScope sLaw) (by decide +kernel)) (fun _ _ _ _ _ => pg_name (i := 10) scLaw.nd rfl (Or.inl rfl))
          (fun _ _ _ _ _ => pts_one (pt_cmpR (op_notInDT (K' := K) rfl hr.units) (pe_tup (pa_cons (pv 10) pa_nil)) (pv 7) rfl)) (fun _ _ _ _ _ => pv 10))) (pe_lst pa_nil) (nomark _)) (pss_one (ps_ret pe_bl)) pss_nil)
      (pss_cons (ps_for PassesOwn.never rfl (pi_tup (pv 7)) (pg_name (i := 11) scLaw.nd rfl (Or.inl rfl))
          (pss_one (ps_if (pt_not (pt_val (pe_callG GL hr7 gu (by rfl) LR.m LR.F.kp LR.b (pa_cons (pv 1) (pa_cons (pv 5) (pa_cons (pv 6) (pa_cons (pv 11) (pa_cons (pv 7) pa_nil)))))))) (pss_one (ps_ret pe_bl)) pss_nil)))
      (pss_cons (ps_set (i := 12) scLaw.nd rfl (Or.inr rfl) (pe_call GF hr1 (by rfl) FR.m FR.F.kp FR.b .nil pass0 (pa_cons (pe_callTy (call_list_dK rfl) (by rfl) T.list (by decide +kernel) (pa_cons (pv 6) pa_nil)) pa_nil)))
      (pss_cons (ps_set (i := 13) scLaw.nd rfl (Or.inl rfl) (pe_lamcall (T := [(PT, Str.ofString "law" ++ ".<locals>." ++ "<lambda>")]) (k := 6) (by rfl) HE.m HE.F.kp hlk hhcd HE.b scHeard rfl (Or.inl rfl) (heard_givesC T tVE hcl) TB rfl (List.mem_singleton.mpr rfl) (fun p hp _ => by rw [List.mem_singleton.mp hp]; rfl) hr (lamS_by (show lamSB (defScope sLaw) _ = true by decide +kernel)) rfl (fun _ _ _ _ _ => rfl)
          (fun A outer s H E f c' hr' => L2.pe_methR (pv 5) Y.cl mWR GWX hr' (passes_call (takes_of rfl rfl rfl rfl) fun _ _ _ _ h => h) (pa_cons (pe_tup (pa_cons (pe_ix (ix_listK (K' := K) rfl) (pv 12) pe_int (fun _ _ => rfl)) (pa_cons pe_str pa_nil))) (pa_cons (pe_tup (pa_cons (pe_ix (ix_listK (K' := K) rfl) (pv 12) pe_int (fun _ _ => rfl)) (pa_cons pe_str pa_nil))) pa_nil)))))
      (pss_cons (ps_if (pt_cmpR op_ne (pe_callB (call_reprD gu hr.units) (by rfl) T.repr (by decide +kernel) (pa_cons (pv 13) pa_nil)) (pe_callB (call_reprD gu hr.units) (by rfl) T.repr (by decide +kernel) (pa_cons (pe_tup (pa_cons pe_str (pa_cons pe_str (pa_cons (pe_op op_add (pe_callB call_len_seq (by rfl) T.len PySem.boot_len (pa_cons (pv 3) pa_nil)) pe_int) pa_nil)))) pa_nil)) (nomark _)) (pss_one (ps_ret pe_bl)) pss_nil)
      (pss_cons (ps_if (PW.pt (pw_or (pt_cmpR op_ne (pe_callB (call_reprD gu hr.units) (by rfl) T.repr (by decide +kernel) (pa_cons (pe_fld (pv 5) rfl) pa_nil)) (pe_callB (call_reprD gu hr.units) (by rfl) T.repr (by decide +kernel) (pa_cons (pe_callTy call_tuple_of (by rfl) T.tuple (by decide +kernel) (pa_cons (pv 3) pa_nil)) pa_nil)) (nomark _))
          (pw_or1 (pt_cmpR op_ne (pe_callB (call_reprD gu hr.units) (by rfl) T.repr (by decide +kernel) (pa_cons (pe_meth0 (pv 5) Y.cl mKi GKi hr4 bKi .nil passF) pa_nil)) (pe_callB (call_reprD gu hr.units) (by rfl) T.repr (by decide +kernel) (pa_cons (pv 7) pa_nil)) (nomark _))))) (pss_one (ps_ret pe_bl)) pss_nil)
      (pss_one (ps_ret (pe_call GTw hr7 (by rfl) TW.m TW.F.kp TW.b .nil pass0 (pa_cons (pv 1) (pa_cons (pv 5) (pa_cons (pe_callTy (call_list_dK rfl) (by rfl) T.list (by decide +kernel) (pa_cons (pv 6) pa_nil)) (pa_cons (pe_ix ix_list (pv 12) pe_int (fun _ _ => rfl)) pa_nil))))))))))))))))))))), ?_⟩
    generalize hT : [(PT, Str.ofString "law" ++ ".<locals>." ++ "<lambda>")] = T0
    have tb0 : Tabs T0 H := by
      rw [← hT]
      intro q hq
      rw [List.mem_singleton.mp hq]
      exact TabS.nil hPT
    refine ⟨_, rfl, a, ns, rfl, hS, hl, fun p cc H1 P1 s1 => ?_⟩
    have tb1 := Tabs.same tb0 s1
    refine ⟨_, rfl, _, rfl, (by show 6 ≤ sizeLine; decide), fun l0 h0 => ?_⟩
    refine ⟨p, cc, ns, 0, _, _, rfl, P1.new h0, by omega, .inl ⟨l0, rfl, (P1.pne h0).symm, upd_same⟩, by simp, (by show 6 ≤ 1000; decide), fun j v H2 hv k2 P2 => ?_⟩
    have kk2 : Keep p H1 H2 := ((Keep.refl p H1).new h0).trans k2
    have tb2 := Tabs.kp tb1 P1 kk2
    obtain ⟨m, rfl, hm⟩ : ∃ m : Nat, v = .int (m : Int) ∧ m ≤ 4 := by
      have hm6 := List.mem_of_getElem? hv
      simp only [List.mem_cons, List.not_mem_nil, or_false] at hm6
      rcases hm6 with rfl | rfl | rfl | rfl | rfl | rfl
      · exact ⟨0, rfl, by omega⟩
      · exact ⟨1, rfl, by omega⟩
      · exact ⟨2, rfl, by omega⟩
      · exact ⟨3, rfl, by omega⟩
      · exact ⟨4, rfl, by omega⟩
      · exact ⟨4, rfl, by omega⟩
    refine ⟨p, cc, ns, 0 + 1, m, rfl, P2, by omega, by omega, fun lw ws H4 hw hwl hlw k4 P4 => ?_⟩
    have tb4 := Tabs.kp tb2 P2 k4
    refine ⟨_, rfl, _, rfl, p, cc, lw, ns, 0 + 1 + 14, ws, rfl, P4, by omega, hlw, hw, by omega, fun lr ts rs H5 g en R hlr k5 P5 => ?_⟩
    have tb5 := Tabs.kp tb4 P4 k5
    have hrl : rs.length = m := by rw [← hwl, ← en, List.length_map]
    have nlw : lw ≠ p := fun e => P4.strs_ne hlw e
    have hlw5 := k5 _ _ hlw nlw
    refine ⟨_, rfl, p, cc, ns, 0 + 1 + 14 + 1500, _, rfl, P5, by omega, by decide, by decide, fun dv2 HY _ _ k8 P8 => ?_⟩
    have tbY := Tabs.kp tb5 P5 k8
    have hlw8 := k8 _ _ hlw5 nlw
    have fLR := k8 _ _ hlr (P5.refs_ne hlr)
    have fR := R.keep P5 k8
    refine ⟨rfl, _, rfl, ite2 (fun z => ?case1) (fun z => ?case2)⟩
    case' case1 =>
      refine ⟨_, rfl, lw, rfl, ⟨_, SqL.of hlw8⟩, fun LR hD => ?_⟩
      refine lc_list (K := K) (a := lw) (xs := ws.map V.str) (fun j Hd => ∃ (tl : List Addr) (us : List Row), us.length = j ∧ us.map (·.1) = ws.take j ∧ Good us ∧ RowsAt Hd tl us ∧ Hd LR = some (.lst (tl.map V.ref)) ∧ Keep p HY Hd ∧ Pen Hd p cc ns (0 + 1 + 14 + 1500 + 1 + j)) ?h0 ?h1 ?h2 ?h3
    case' h0 => exact ⟨[], [], rfl, rfl, good_nil, rowsAt_nil _, upd_same, (Keep.refl p HY).new hD, P8.new hD⟩
    case' h1 =>
      rintro j Hd _ ⟨_, _, _, _, _, _, _, kd, _⟩
      exact SqL.of (kd _ _ hlw8 nlw)
    case' h2 =>
      rintro j y Hd hy ⟨tl, us, u1, u2, u3, u4, u5, kd, Pd⟩
      have hjl : j < ws.length := by
        have := (List.getElem?_eq_some_iff.mp hy).1
        rwa [List.length_map] at this
      have hzj : ws[j]? = some ws[j] := List.getElem?_eq_getElem hjl
      rw [List.getElem?_map, hzj] at hy
      have et : ws.take (j + 1) = ws.take j ++ [ws[j]] := by rw [List.take_add_one, hzj]; rfl
      have hwm := List.getElem_mem hjl
      have hwn : ws[j] ∉ ws.take j := fun hm => by
        have q := hw.nd.sublist (List.take_sublist (j + 1) ws)
        rw [et] at q
        exact (List.nodup_append.mp q).2.2 _ hm _ (List.mem_singleton.mpr rfl) rfl
      generalize ws[j] = x at hzj hy et hwm hwn
      cases hy
      refine ⟨rfl, _, rfl, _, rfl, (by show 3 ≤ sizeLine; decide), fun l2 h2 => ?_⟩
      refine ⟨p, cc, ns, 0 + 1 + 14 + 1500 + 1 + j, _, _, rfl, Pd.new h2, by omega, .inl ⟨l2, rfl, (Pd.pne h2).symm, upd_same⟩, by simp, (by show 3 ≤ 1000; decide), fun j2 vb H9 hvb k9 P9 => ?_⟩
      have k9' : Keep p Hd H9 := ((Keep.refl p Hd).new h2).trans k9
      obtain ⟨b, rfl, hb⟩ : ∃ b : Str, vb = .str b ∧ b ∈ base0 := by
        have hm6 := List.mem_of_getElem? hvb
        simp only [List.mem_cons, List.not_mem_nil, or_false] at hm6
        rcases hm6 with rfl | rfl | rfl
        · exact ⟨_, rfl, by unfold base0; simp [sErr]⟩
        · exact ⟨_, rfl, by unfold base0; simp [sErr]⟩
        · exact ⟨_, rfl, by unfold base0; simp [sVac]⟩
      have nDp : LR ≠ p := (P8.pne hD).symm
      have u59 := k9' _ _ u5 nDp
      refine ⟨(by show 2 ≤ sizeLine; decide), fun t1 ht1 => ⟨_, by rw [upd_ne (ne_of_none u59 ht1)]; exact u59, ?_, tl ++ [t1], us ++ [(x, [b])], ?_, ?_, ?_, ?_, ?_, ?_, ?_⟩⟩
      · rw [List.length_map, u4.1, u1]; show _ < 16777216; omega
      · rw [List.length_append, u1]; rfl
      · rw [List.map_append, u2, et]; rfl
      · refine good_snoc u3 ⟨hw.vw x hwm, ?_, by simp, by simp, fun c hc => ?_⟩
        · rw [u2]
          intro hm
          rcases List.mem_append.mp hm with hm | hm
          · have := hw.nb x hwm
            unfold base0 at hm
            rcases List.mem_cons.mp hm with e | hm
            · have e : x = sErr := e
              rw [e] at this; exact this err_barred
            · have e : x = sVac := by simpa using hm
              rw [e] at this; exact this vac_barred
          · exact hwn hm
        · have : c = b := by simpa using hc
          rw [this]
          exact List.mem_append_left _ hb
      · have nt : ∀ (q : Addr) (r : Row), H9 q = some (rowO r) → q ≠ LR := fun q r hq => ne_of hq u59 (by unfold rowO; intro z; cases z)
        have et1 : (upd (upd H9 t1 (.tup [.str x, .str b])) LR (.lst (tl.map V.ref ++ [.ref t1]))) t1 = some (rowO (x, [b])) := by
          rw [upd_ne (ne_of_none u59 ht1).symm, upd_same]
          rfl
        refine RowsAt.snoc ?_ et1
        refine (u4.keep Pd k9').mono fun q r hq => ?_
        rw [upd_ne (nt q r hq), upd_ne (ne_of_none hq ht1)]
        exact hq
      · rw [upd_same, List.map_append]; rfl
      · exact ((kd.trans k9').new ((kd.trans k9').fresh P9 ht1)).new hD
      · have Pt := P9.new (o := .tup [.str x, .str b]) ht1
        exact (Pt.upd' (P8.pne hD) (P8.cne hD)).mono (by omega)
    case' h3 =>
      rintro HZ ⟨TL, US, fLn, _, fG, fR, fLR, kd, Pd⟩
      have tbZ := Tabs.kp tbY P8 kd
      have PZ : Pen HZ p cc ns 1600 := Pd.mono (by rw [List.length_map]; omega)
      have hU : US.length ≤ 4 := by rw [fLn, List.length_map, hwl]; exact hm
      obtain ⟨LQ, eLQ⟩ : ∃ q : Addr, q = LR := ⟨_, rfl⟩
      rw [← eLQ]
      rw [← eLQ] at fLR
      clear eLQ
    case' case2 =>
      obtain ⟨LQ, eLQ⟩ : ∃ q : Addr, q = lr := ⟨_, rfl⟩
      rw [← eLQ]
      rw [← eLQ] at fLR
      clear eLQ
      obtain ⟨TL, eTL⟩ : ∃ q, q = ts := ⟨_, rfl⟩
      obtain ⟨US, eUS⟩ : ∃ q, q = rs := ⟨_, rfl⟩
      obtain ⟨HZ, eHZ⟩ : ∃ q, q = HY := ⟨_, rfl⟩
      rw [← eTL] at fLR
      rw [← eTL, ← eUS] at fR
      have fG : Good US := eUS ▸ g
      have hU : US.length ≤ 4 := by rw [eUS, hrl]; exact hm
      have PZ : Pen HZ p cc ns 1600 := eHZ ▸ P8.mono (by omega)
      have tbZ : Tabs T0 HZ := eHZ ▸ tbY
      rw [← eHZ]
      rw [← eHZ] at fLR fR
    all_goals
      have TO : TOk (ups US) := by
        have := tok_ups fG US.length (Nat.le_refl _)
        rwa [List.take_length] at this
      have TR : Tra (ups US) := by
        have := tra_ups fG US.length (Nat.le_refl _)
        rwa [List.take_length] at this
      have knd := TO.nodup
      have hkl : (keys (ups US)).length ≤ 6 := by
        rw [keys_ups, List.length_append, List.length_map]
        show 2 + _ ≤ 6
        omega
      have hvw : ∀ y ∈ keys (ups US), VW y := by
        have := fG.vw_known US.length
        rw [← keys_ups_take, List.take_length] at this
        exact this
      have sok : ∀ y ∈ keys (ups US), sOk y = true := fun y hy => (vw_ok (hvw y hy)).1
      have fit := fG.fit (by omega)
      refine ⟨rfl, _, rfl, LQ, TL, US, rfl, fLR, fR, fG, by omega, fun b H6 cb s6 => ?_⟩
      refine ⟨_, rfl, LQ, TL, US, rfl, s6 _ _ fLR, fR.mono fun q r e => s6 _ _ e, fG, by omega, fun d kvs H7 hdn hd TBd s7 => ?_⟩
      refine ⟨(by show 2 ≤ sizeLine; decide), fun tp htp => ⟨tp, _, rfl, SqT.of upd_same, rfl, _, _, rfl, _, _, rfl, rfl, ?_⟩⟩
      have s8 : Same H7 (upd H7 tp (.tup [V.ref b, V.ref d])) := (Same.refl H7).put htp
      have cb8 := (cb.same s7).same s8
      have hd8 := s8 _ _ hd
      have TB8 : Tab fL (upd H7 tp (.tup [V.ref b, V.ref d])) kvs (ups US) := TBd.mono fun a us e => s8 _ _ e
      have sZ8 := (s6.trans s7).trans s8
      generalize upd H7 tp (.tup [V.ref b, V.ref d]) = H8 at s8 cb8 hd8 TB8 sZ8 ⊢
      obtain ⟨dx, fs, hp1, hp2⟩ := cb8.ins
      have hp2k := hp2 "kinds" (by decide +kernel) (by decide +kernel) (by decide +kernel)
      refine ⟨_, rfl, b, dx, fs, rfl, hp1, hp2k, b, US, rfl, cb8, knd, by omega, fun _ r bs S ys H9 hS hso hr9 hpa9 hpm hpw s9 => ?_, fun hgt => absurd hgt (by omega)⟩
      have KO : KindsOf (ups US) ys := kinds_of knd hS hso hpm
      have hSl : S.length ≤ 6 := by rw [hS.length_eq]; exact hkl
      have ysl : ys.length ≤ 64 := by
        rw [hpm.length_eq]
        refine Nat.le_trans (List.Sublist.length_le (List.tail_sublist _)) (growK_sz hSl)
      have sZ9 := sZ8.trans s9
      have F9 : Fx C H9 b d r LQ US kvs TL bs ys := ⟨cb8.same s9, s9 _ _ hd8, TB8.mono fun a us e => s9 _ _ e, hr9, hpa9, sZ9 _ _ fLR, fR.mono fun q r e => sZ9 _ _ e⟩
      have P9 := PZ.same sZ9
      have tb9 := Tabs.same tbZ sZ9
      -- met
      refine ⟨d, .dK kvs, F9.hd, True.intro, fun od => ?_⟩
      have ndd : ∀ {b : Addr} {o : HO}, H9 b = some o → (∀ kvs, o ≠ .dK kvs) → (upd H9 d (.frz od (.dK kvs))) b = some o := fun {b o} e no => by
        rw [upd_ne (fun z => no kvs (by rw [z, F9.hd] at e; exact (Option.some.inj e).symm))]
        exact e
      have hdL : (upd H9 d (.frz od (.dK kvs))) d = some (.frz od (.dK kvs)) := upd_same
      have hrL := ndd F9.hr (fun _ z => by cases z)
      have clL : ClsAt C (upd H9 d (.frz od (.dK kvs))) b (ups US) := (cb.same (((s7.trans s8).trans s9).put hdn)).at
      have paL : PAt (upd H9 d (.frz od (.dK kvs))) bs ys := F9.pa.same fun b o hb e => by
        obtain ⟨xs, _, e2⟩ := F9.pa.mem hb
        rw [e2] at e
        cases e
        exact ndd e2 (fun _ z => by cases z)
      generalize hHL : upd H9 d (.frz od (.dK kvs)) = HL at hdL hrL clL paL
      refine ⟨_, rfl, r, rfl, ⟨_, SqT.of hrL⟩, fun LM hLM => ?_⟩
      have nLM : LM ≠ d := fun e => by rw [e, hdL] at hLM; cases hLM
      have bl := hpa9.len
      refine lc_tup (K := K) (a := r) (xs := bs.map V.ref) (fun i Hx => Hx LM = some (.lst (((ys.take i).map (metT (ups US))).map V.str)) ∧ Same HL Hx) ?_ ?_ ?_ ?_
      · exact ⟨upd_same, (Same.refl HL).put hLM⟩
      · rintro i Hx _ ⟨_, sx⟩
        exact SqT.of (sx _ _ hrL)
      · rintro i y Hx hy ⟨hLMx, sx⟩
        rw [List.getElem?_map] at hy
        obtain ⟨b1, hb1, rfl⟩ : ∃ b1, bs[i]? = some b1 ∧ V.ref b1 = y := by
          cases hq2 : bs[i]? with
          | none => rw [hq2] at hy; cases hy
          | some b1 => rw [hq2] at hy; exact ⟨b1, rfl, Option.some.inj hy⟩
        obtain ⟨y, hys, hbt⟩ := paL.get hb1
        have et : ys.take (i + 1) = ys.take i ++ [y] := by rw [List.take_add_one, hys]; rfl
        obtain ⟨yne, yk, yL⟩ := (KO.mem y).mp (List.mem_of_getElem? hys)
        have yl : y.length ≤ 6 := Nat.le_trans (yL.nd.length_le_of_subset yk) hkl
        have hil : i < ys.length := (List.getElem?_eq_some_iff.mp hys).1
        refine ⟨rfl, _, rfl, d, od, rfl, .inl ⟨kvs, sx _ _ hdL, fun D hD => ?_⟩⟩
        refine lc_it walk_keys (fun j Hz => Hz D = some (.lst ((((keys (ups US)).take j).map fun n => meet (ups US) y [n]).map V.bl)) ∧ Same Hx Hz) ?_ ?_ ?_ ?_
        · exact ⟨upd_same, (Same.refl Hx).put hD⟩
        · rintro j Hz _ ⟨_, sz⟩
          exact sz _ _ (sx _ _ hdL)
        · rintro j w Hz Hw hj ⟨g1, sz⟩ ⟨rfl, kk, vv, hkv, rfl⟩
          obtain ⟨x, hx0, rfl⟩ := key_atL TBd hkv
          have hx : x ∈ keys (ups US) := List.mem_of_getElem? hx0
          have ej : (keys (ups US)).take (j + 1) = (keys (ups US)).take j ++ [x] := by rw [List.take_add_one, hx0]; rfl
          have sxz := sx.trans sz
          obtain ⟨dxz, fsz, hz1, hz2⟩ := (clL.same sxz).ins
          have hz2m := hz2 "meets" (by decide +kernel) (by decide +kernel) (by decide +kernel)
          refine ⟨rfl, _, rfl, b, dxz, fsz, rfl, hz1, hz2m, _, rfl, _, rfl, (by show 1 ≤ sizeLine; decide), fun l2 hl2 => ?_⟩
          have s2 : Same Hw (upd Hw l2 (.lst [kV (Sum.inr x : Key)])) := (Same.refl Hw).put hl2
          refine ⟨b, b1, l2, y, [x], ups US, rfl, (clL.same sxz).same s2, s2 _ _ (sxz _ _ hbt), upd_same, yk, by omega, (by show 1 ≤ 40; decide), fun H' s' => ?_⟩
          have s3 := s2.trans s'
          refine ⟨_, s3 _ _ g1, ?_, ?_, (sz.trans s3).put hD⟩
          · rw [List.length_map, List.length_map, List.length_take]; show _ < 16777216; omega
          · rw [upd_same, ej, List.map_append, List.map_append]
            rfl
        · rintro Hz ⟨g1, sz⟩
          rw [show kvs.length = (keys (ups US)).length by rw [TBd.len]; simp [keys], List.take_length] at g1
          have ml : (metD (ups US) y).length ≤ 1000 := by unfold metD; rw [List.length_map]; omega
          have dp : (boolsD (metD (ups US) y)).depth ≤ 8 := by
            show PyData.depthAll ((metD (ups US) y).map PyData.bool) + 1 ≤ 8
            rw [bools_depth]
            decide
          refine ⟨D, boolsD (metD (ups US) y), rfl, .lst (SqL.of g1) (bools_dp _ _ _), bools_show _, bools_nodict _, dp, bools_size _ ml, _, sz _ _ hLMx, ?_, ?_, (sx.trans sz).put hLM⟩
          · rw [List.length_map, List.length_map, List.length_take]; show _ < 16777216; omega
          · rw [upd_same, et, List.map_append, List.map_append]
            rfl
      rintro Hx ⟨hLMx, sx⟩
      rw [List.length_map, bl, List.take_length] at hLMx
      refine ⟨sx _ _ hdL, ?_⟩
      have s10 : Same H9 (upd Hx d (.dK kvs)) := unlock F9.hd (by rw [hHL]; exact sx)
      have eLM : (upd Hx d (.dK kvs)) LM = some (.lst ((ys.map (metT (ups US))).map V.str)) := by rw [upd_ne nLM]; exact hLMx
      clear hdL hrL clL paL hHL hLMx sx ndd
      generalize upd Hx d (.dK kvs) = H10 at s10 eLM ⊢
      have F10 := F9.same s10
      have P10 := P9.same s10
      have tb10 := Tabs.same tb9 s10
      have hdn10 : H6 d = none := hdn
      -- isinstance, len(set(met))
      refine ⟨_, rfl, _, _, _, _, true, rfl, .ty _, .base (.tup F10.hr), kit_ty (by decide +kernel), _, rfl, ?_⟩
      refine ⟨_, rfl, LM, _, rfl, eLM, by rw [List.length_map]; omega, fun zs znd zm => ⟨_, rfl, r, _, rfl, .inr (SqT.of F10.hr), rfl, _, rfl, iteNS ?_ ?_⟩⟩
      · have e : zs.length = ys.length := by
          have := ((List.perm_ext_iff_of_nodup znd (metT_nd TO TR KO)).mpr zm).length_eq
          rwa [List.length_map] at this
        rw [List.length_map, bl, e]
      -- each class is a kind
      refine ⟨d, .dK kvs, F10.hd, True.intro, fun od2 => ⟨_, rfl, d, od2, rfl, .inl ⟨kvs, upd_same, fun D hD => ?_⟩⟩⟩
      have nD : D ≠ d := fun e => by rw [e, upd_same] at hD; cases hD
      have ndd : ∀ {b : Addr} {o : HO}, H10 b = some o → (∀ kvs, o ≠ .dK kvs) → (upd H10 d (.frz od2 (.dK kvs))) b = some o := fun {b o} e no => by
        rw [upd_ne (fun z => no kvs (by rw [z, F10.hd] at e; exact (Option.some.inj e).symm))]
        exact e
      have hdL : (upd H10 d (.frz od2 (.dK kvs))) d = some (.frz od2 (.dK kvs)) := upd_same
      have hrL := ndd F10.hr (fun _ z => by cases z)
      have paL : PAt (upd H10 d (.frz od2 (.dK kvs))) bs ys := F10.pa.same fun b o hb e => by
        obtain ⟨xs, _, e2⟩ := F10.pa.mem hb
        rw [e2] at e
        cases e
        exact ndd e2 (fun _ z => by cases z)
      have okys : ∀ y ∈ ys, ∀ x ∈ y, sOk x = true := fun y hy x hx => sok x (((KO.mem y).mp hy).2.1 x hx)
      generalize hHL : upd H10 d (.frz od2 (.dK kvs)) = HL at hdL hrL paL hD
      refine lc_it walk_keys (fun j Hz => Hz D = some (.lst []) ∧ Same HL Hz) ?_ ?_ ?_ ?_
      · exact ⟨upd_same, (Same.refl HL).put hD⟩
      · rintro j Hz _ ⟨_, sz⟩
        exact sz _ _ hdL
      · rintro j w Hz Hw hj ⟨g1, sz⟩ ⟨rfl, kk, vv, hkv, rfl⟩
        obtain ⟨x, hx0, rfl⟩ := key_atL TBd hkv
        have hx : x ∈ keys (ups US) := List.mem_of_getElem? hx0
        refine ⟨rfl, _, rfl, (by show 1 ≤ sizeLine; decide), fun t1 ht1 => ?_⟩
        have s2 : Same Hw (upd Hw t1 (.tup [V.str x])) := (Same.refl Hw).put ht1
        refine ⟨_, rfl, tD [x], ys.map tD, .tup (SqT.of upd_same) (strs_dp _ _ [x]), .tup (SqT.of (s2 _ _ (sz _ _ hrL))) (PAt.dp _ _ _ (paL.same fun b o _ e => s2 _ _ (sz _ _ e))), tD_shaped _ (fun y hy => by rw [List.mem_singleton.mp hy]; exact sok x hx), tDs_shaped ys okys, by rw [tD_depth]; decide, _, rfl, ?_⟩
        rw [any_tD, decide_eq_true (KO.one TO hx)]
        exact iteF ⟨s2 _ _ g1, sz.trans s2⟩
      rintro Hy ⟨g1, sy⟩
      refine ⟨sy _ _ hdL, ?_⟩
      have s11 : Same H10 (upd Hy d (.dK kvs)) := unlock F10.hd (by rw [hHL]; exact sy)
      have eD : (upd Hy d (.dK kvs)) D = some (.lst []) := by rw [upd_ne nD]; exact g1
      clear hdL hrL paL hHL g1 sy ndd
      generalize upd Hy d (.dK kvs) = H11 at s11 eD ⊢
      refine ⟨Nat.zero_le _, fun e1 he1 => ?_⟩
      have sE : Same H11 (upd H11 e1 (.lst [])) := (Same.refl H11).put he1
      refine ⟨.list [], .list [], .lst (SqL.of (sE _ _ eD)) .nil, .lst (SqL.of upd_same) .nil, rfl, rfl, _, rfl, ite2 (fun z => absurd z (by decide)) fun _ => ?_⟩
      have s12 := s11.trans sE
      have F12 := F10.same s12
      have P12 := P10.same s12
      have tb12 := Tabs.same tb10 s12
      generalize upd H11 e1 (.lst []) = H12 at sE s12 F12 P12 tb12 ⊢
      clear sE eD he1 s11
      -- later classes
      refine ⟨_, rfl, r, rfl, ⟨_, SqT.of F12.hr⟩, ?_⟩
      refine for_tup (K := K) (a := r) (xs := bs.map V.ref) (fun i σ Hc => ∃ v11 : Option V, σ = [some (.ref a), some (.ref p), some (.ref lw), some (.ref LQ), none, some (.ref b), some (.ref d), some (.ref r), some (.ref LM), none, none, v11, none, none] ∧ Fx C Hc b d r LQ US kvs TL bs ys ∧ Pen Hc p cc ns (1600 + 60 * i) ∧ Tabs T0 Hc) ?_ ?_ ?_ ?_
      · exact ⟨_, rfl, F12, P12, tb12⟩
      · rintro i σ Hc _ ⟨v11, rfl, Fc, _, _⟩
        exact SqT.of Fc.hr
      · rintro i y σ Hc hy ⟨v11, rfl, Fc, Pc, tbc⟩
        rw [List.getElem?_map] at hy
        obtain ⟨b1, hb1, rfl⟩ : ∃ b1, bs[i]? = some b1 ∧ V.ref b1 = y := by
          cases hq2 : bs[i]? with
          | none => rw [hq2] at hy; cases hy
          | some b1 => rw [hq2] at hy; exact ⟨b1, rfl, Option.some.inj hy⟩
        obtain ⟨y, hys, hbt⟩ := Fc.pa.get hb1
        have hil : i < ys.length := (List.getElem?_eq_some_iff.mp hys).1
        refine ⟨_, rfl, _, rfl, _, rfl, _, rfl, _, rfl, p, cc, b, d, b1, r, ns, _, US, kvs, y, bs, ys, rfl, Pc, by omega, Fc.cw, fG, hU, Fc.hd, Fc.tb, hbt, List.mem_of_getElem? hys, Fc.hr, Fc.pa, KO, fun H' kk PP => ⟨_, rfl, ite2 (fun z => absurd z (by decide)) fun _ => ?_⟩⟩
        exact ⟨_, rfl, Fc.keep Pc kk, PP, Tabs.kp tbc Pc kk⟩
      rintro σ Hc ⟨v11, rfl, Fc, Pc, tbc⟩
      rw [List.length_map, bl] at Pc
      have Pc : Pen Hc p cc ns 6000 := Pc.mono (by omega)
      -- fresh words
      refine ⟨_, rfl, d, _, rfl, Fc.hd, fun q hq => ?_⟩
      have s1' : Same Hc (upd Hc q (.lst (kvs.map fun kv => kV kv.1))) := (Same.refl Hc).put hq
      have e1' : (upd Hc q (.lst (kvs.map fun kv => kV kv.1))) q = some (.lst ((keys (ups US)).map V.str)) := by rw [upd_same, keys_vals TBd]
      generalize upd Hc q (.lst (kvs.map fun kv => kV kv.1)) = Hd at s1' e1' ⊢
      refine ⟨q, keys (ups US), rfl, e1', fun fr He _ efr s2' => ?_⟩
      have sce := s1'.trans s2'
      have Fe := Fc.same sce
      have Pe := Pc.same sce
      have tbe := Tabs.same tbc sce
      have hfl : 12 ≤ (freshL (keys (ups US))).length := fresh_len hkl
      have hf : ∀ i, i < 12 → ∃ x, (freshL (keys (ups US)))[i]? = some x ∧ x ∉ keys (ups US) ∧ VW x := fun i hi => by
        have := List.getElem?_eq_getElem (l := freshL (keys (ups US))) (i := i) (by omega)
        exact ⟨_, this, fresh_mem (List.mem_of_getElem? this)⟩
      obtain ⟨f0, hf0, n0, v0⟩ := hf 0 (by omega)
      obtain ⟨f1, hf1, n1, v1⟩ := hf 1 (by omega)
      obtain ⟨f5, hf5, n5, v5⟩ := hf 5 (by omega)
      have at_ : ∀ {i : Nat} {x : Str}, (freshL (keys (ups US)))[i]? = some x → ((freshL (keys (ups US))).map V.str)[i]? = some (V.str x) := fun h => by rw [List.getElem?_map, h]; rfl
      -- a later class that is refused
      refine ⟨tbe, fun Hf xf tbf => ?_⟩
      have Ff := Fe.ext xf
      have Pf := Pe.extN xf
      have effr := xf _ _ efr (fun ps z => by cases z)
      obtain ⟨dxf, fsf, hf1', hf2'⟩ := Ff.cw.ins
      have hfw := hf2' "with_rows" (by decide +kernel) (by decide +kernel) (by decide +kernel)
      refine ⟨_, rfl, b, dxf, fsf, rfl, hf1', hfw, _, rfl, fr, _, _, _, rfl, rfl, SqL.of effr, atI_nat (j := 0) (at_ hf0), (by show 2 ≤ sizeLine; decide), fun t1 ht1 => ?_⟩
      have r1 : Same Hf (upd Hf t1 (.tup [V.str f0, V.str (Str.ofString "error")])) := (Same.refl Hf).put ht1
      have x1 : (upd Hf t1 (.tup [V.str f0, V.str (Str.ofString "error")])) t1 = some (rowO (f0, [sErr])) := upd_same
      generalize upd Hf t1 (.tup [V.str f0, V.str (Str.ofString "error")]) = Hg at r1 x1 ⊢
      refine ⟨_, rfl, fr, _, _, _, rfl, rfl, SqL.of (r1 _ _ effr), atI_nat (j := 1) (at_ hf1), (by show 2 ≤ sizeLine; decide), fun t2 ht2 => ?_⟩
      have r2 : Same Hg (upd Hg t2 (.tup [V.str f1, V.str (Str.ofString "ninesigns")])) := (Same.refl Hg).put ht2
      have x2 : (upd Hg t2 (.tup [V.str f1, V.str (Str.ofString "ninesigns")])) t2 = some (.tup [V.str f1, V.str (Str.ofString "ninesigns")]) := upd_same
      generalize upd Hg t2 (.tup [V.str f1, V.str (Str.ofString "ninesigns")]) = Hh at r2 x2 ⊢
      refine ⟨[V.ref b], _, rfl, rfl, (by show 2 ≤ 16777216; decide), fun pt hpt => ?_⟩
      have r3 : Same Hh (upd Hh pt (.tup [V.ref t1, V.ref t2])) := (Same.refl Hh).put hpt
      have r13 := (r1.trans r2).trans r3
      have g1 : Good (US ++ [(f0, [sErr])]) := good_snoc fG (by
        rw [← keys_ups]
        exact ⟨v0, n0, by simp, by simp, fun c hc => by rw [List.mem_singleton.mp hc, keys_ups]; exact List.mem_append_left _ (by unfold base0; simp)⟩)
      have gl : (US ++ [(f0, [sErr])]).length = US.length + 1 := by rw [List.length_append]; rfl
      refine ⟨b, pt, US, [(f0, [sErr])], [V.ref t1, V.ref t2], "row", rfl, (Ff.same r13).cw, upd_same, (by show 2 ≤ 500; decide), ⟨g1, by omega, [t1], .ref t2, [], rfl, RowsAt.one' (r3 _ _ (r2 _ _ x1)), .row3 (by omega) (r3 _ _ x2) (Nat.le_refl _) (by show 2 ≤ 100; decide) (bs := [true, false]) ⟨rfl, fun i x bb h1 h2 => ?_⟩ rfl⟩, fun dd H' s' hd' => ⟨CN, dd, _, _, _, rfl, rfl, hd', hCls, rfl, rfl, fun t9 Hk sk ht9 => ?_⟩⟩
      · match i, h1, h2 with
        | 0, h1, h2 =>
          cases h1
          cases h2
          exact .vw v1
        | 1, h1, h2 =>
          cases h1
          cases h2
          have := WdV.str (K := K) (H := upd Hh pt (.tup [V.ref t1, V.ref t2])) (Str.ofString "ninesigns") (by decide +kernel)
          rwa [long_isW ninesigns_long] at this
        | n + 2, h1, h2 => cases h1
      rw [gl] at ht9
      have sfk : Same Hf Hk := (r13.trans s').trans sk
      have Fk := Ff.same sfk
      have Pk := Pf.same sfk
      have efk := sfk _ _ effr
      have ck := cD_ok (US.length + 1) (by omega)
      refine ⟨_, rfl, t9, cD (US.length + 1), rfl, cD_dp ht9, ck.1, ck.2.1, ck.2.2.1, ck.2.2.2, ?_⟩
      have en : (((TL.map V.ref).length : Nat) : Int) = ((US.length : Nat) : Int) := by rw [List.length_map, Fk.R.1]
      refine ⟨_, rfl, LQ, _, rfl, .inl (SqL.of Fk.hl), ((US.length : Nat) : Int), 1, congrArg V.int en, rfl, (by show 3 ≤ sizeLine; decide), fun t10 ht10 => ?_⟩
      have r4 : Same Hk (upd Hk t10 (.tup [V.str "CLASS", V.str "row", V.int (((US.length : Nat) : Int) + 1)])) := (Same.refl Hk).put ht10
      refine ⟨t10, cD (US.length + 1), rfl, cD_dp upd_same, ck.1, ck.2.1, ck.2.2.1, ck.2.2.2, rfl, _, rfl, ite2 (fun z => absurd z (by simp)) fun _ => ?_⟩
      have Fl := Fk.same r4
      have Pl := Pk.same r4
      have efl := r4 _ _ efk
      clear r1 x1 r2 x2 r3 r13 hd' hpt ht1 ht2 ht9
      generalize upd Hk t10 (.tup [V.str "CLASS", V.str "row", V.int (((US.length : Nat) : Int) + 1)]) = Hl at r4 Fl Pl efl ⊢
      -- the first classes stay
      have d2 : ∀ rs : List Row, (rowsD rs).depth ≤ 8 := fun rs => Nat.le_trans (rowsD_depth rs) (by decide)
      have yin : ∀ x ∈ ys, x ≠ [] ∧ (∀ y ∈ x, y ∈ keys (ups US)) ∧ x.length ≤ 6 := fun x hx => by
        obtain ⟨h1, h2, h3⟩ := (KO.mem x).mp hx
        exact ⟨h1, h2, Nat.le_trans (h3.nd.length_le_of_subset h2) hkl⟩
      have yfit : ∀ r ∈ ys.map rowOf, RowFit r := fun r hr => by
        obtain ⟨x, hx, rfl⟩ := List.mem_map.mp hr
        obtain ⟨h1, h2, h3⟩ := yin x hx
        exact fit_of h1 (fun y hy => hvw y (h2 y hy)) (by omega)
      have yne : ∀ x ∈ ys, x ≠ [] := fun x hx => (yin x hx).1
      have ysl2 : (ys.map rowOf).length ≤ 64 := by rw [List.length_map]; exact ysl
      have cwl := Fl.cw
      obtain ⟨dx2, rr, nn, ll2, kvs2, ts2, c1, _, _, c4, c5, c6⟩ := id cwl
      refine ⟨_, rfl, b, C, dx2, _, _, rfl, c1, Y.cl, Y.nR, flds_rows _ _ _, rr, rowsD US, rfl, .tup (SqT.of c5) (rows_dp K _ _ c6), rowsD_show _, rowsD_nodict _, d2 _, rowsD_fits fit (by omega), _, rfl, LQ, _, rfl, .inl ⟨SqL.of Fl.hl, fun tq htq => ?_⟩⟩
      have sm : Same Hl (upd Hl tq (.tup (TL.map V.ref))) := (Same.refl Hl).put htq
      refine ⟨tq, rowsD US, rfl, .tup (SqT.of upd_same) (rows_dp K _ _ (Fl.same sm).R), rowsD_show _, rowsD_nodict _, d2 _, rowsD_fits fit (by omega), rfl, _, rfl, ite2 (fun z => absurd z (by simp)) fun _ => ?_⟩
      have Fm := Fl.same sm
      have Pm := Pl.same sm
      have efm := sm _ _ efl
      clear c1 c4 c5 c6 htq
      generalize upd Hl tq (.tup (TL.map V.ref)) = Hm at sm Fm Pm efm ⊢
      obtain ⟨dx3, fs3, hm1, hm2⟩ := Fm.cw.ins
      have hm2k := hm2 "kinds" (by decide +kernel) (by decide +kernel) (by decide +kernel)
      refine ⟨_, rfl, b, dx3, fs3, rfl, hm1, hm2k, b, US, rfl, Fm.cw, knd, by omega, fun _ r11 bs11 S2 ys2 Hn hS2 hso2 hr11 hpa11 hpm11 hpw11 sn => ?_, fun hgt => absurd hgt (by omega)⟩
      have nS : S.Nodup := hS.nodup_iff.mpr knd
      obtain rfl : S = S2 := sorted_one nS (hS2.nodup_iff.mpr knd) hso hso2 fun y => by rw [hS.mem_iff, hS2.mem_iff]
      obtain rfl : ys = ys2 := asc_one (hpm.trans hpm11.symm) hpw hpw11
      have Fn := Fm.same sn
      have Pn := Pm.same sn
      have efn := sn _ _ efm
      refine ⟨r11, rowsD (ys.map rowOf), rfl, .tup (SqT.of hr11) (rows_dp K _ _ (hpa11.rows yne)), rowsD_show _, rowsD_nodict _, d2 _, rowsD_fits yfit ysl2, _, rfl, r, rowsD (ys.map rowOf), rfl, .tup (SqT.of Fn.hr) (rows_dp K _ _ (Fn.pa.rows yne)), rowsD_show _, rowsD_nodict _, d2 _, rowsD_fits yfit ysl2, rfl, _, rfl, ite2 (fun z => absurd z (by simp)) fun _ => ?_⟩
      -- twice
      refine ⟨_, rfl, _, rfl, _, rfl, d, _, rfl, Fn.hd, fun q2 hq2 => ?_⟩
      have so : Same Hn (upd Hn q2 (.lst (kvs.map fun kv => kV kv.1))) := (Same.refl Hn).put hq2
      have eo : (upd Hn q2 (.lst (kvs.map fun kv => kV kv.1))) q2 = some (.lst ((keys (ups US)).map V.str)) := by rw [upd_same, keys_vals TBd]
      refine ⟨_, rfl, fr, _, _, _, rfl, rfl, SqL.of (so _ _ efn), atI_nat (j := 5) (at_ hf5), ?_⟩
      exact ⟨p, cc, b, q2, ns, _, US, f5, rfl, Pn.same so, by omega, (Fn.same so).cw, fG, by omega, eo, n5, v5, fun H' => k H'⟩
end
end K2
end
section
set_option Elab.async false
set_option linter.all false
set_option maxRecDepth 100000
set_option maxHeartbeats 2000000
namespace K2
open PySem PySem.Spec PyProof.Rows L2 LamX
/-- law_call with tables: cs, the code objects and their tables -/
theorem law_callTG {P : Program} {w : World} {K : PySem.W.Frag} {mg mb : Str → Option Value} {k : Nat} {fa a : Addr} {cs : List (Addr × Addr)} {fd : FuncData} {x : Str} {sp : Sp} {s₁ : Shared} {vs : List Value} {ns : List Int}
    (KX : K.In s₁.heap) (hns : s₁.heap.Ns mainGlobals mg) (hb : s₁.heap.Ns builtinsNs mb) (hbb : ∀ x : Str, x ≠ "__name__" → mb x = bootBuiltins x) (hlim : s₁.heap.NoLimit) (hg : s₁.gens = #[])
    (hT : ∀ p ∈ cs, s₁.heap.get? p.2 = some { cls := .none, data := .fields #[] }) (nT : ∀ p ∈ cs, K.lookup p.2 = none) (C : ∀ p ∈ cs, PySem.W.CodeHd s₁.heap p.1 p.2)
    (hbm : ∃ (bm : Addr) (ob : Obj), mg "__builtins__" = some (.ref bm) ∧ bm ≠ builtinsNs ∧ s₁.heap.get? bm = some ob ∧ ob.cls = .type "module" ∧ ob.dict = some builtinsNs ∧ ob.data = .plain)
    (ha : s₁.heap.get? a = some { cls := .type "list", data := .seq vs.toArray }) (hi : IntsAre vs ns) (hl : ns.length ≤ sizeLine) (hr : Room k callerA)
    (F : ∀ base : Heap, K.In base → base.Ns mainGlobals mg → (∀ p ∈ cs, TabB base mg p.1 p.2) → FnG P w K mg base k fa fd [x] sp) (hbind : ∀ (s : Shared) (u : Value), BindsTo s fd ⟨[u], []⟩ [(x, u)])
    (hsp : ∀ H : Hp, (∀ p ∈ cs, H p.2 = some (.tbl #[])) → SqL K H a (ns.map V.int) → sp [.ref a] H (fun v _ => v = .bl true) fun _ _ _ => False) :
    codeAny (model P w) callerA (.call (.ref fa) ⟨[.ref a], []⟩) (fun r s' => r = .ok (.ret (.bool true)) ∧ OldK s₁.heap s'.heap ∧ s'.os = s₁.os ∧ AllBare s'.gens) s₁ := by
  have rv := vals_ints hi
  have lenV := hi.length
  have isT : ∀ b : Addr, b ∈ cs.map (·.2) → s₁.heap.get? b = some { cls := .none, data := .fields #[] } := fun b hb => by
    obtain ⟨p, hp, e⟩ := List.mem_map.mp hb
    rw [← e]
    exact hT p hp
  have aT : a ∉ cs.map (·.2) := fun z => by
    have q := isT a z
    rw [ha] at q
    have z' : Data.seq vs.toArray _ = Data.fields #[] := congrArg Obj.data (Option.some.inj q)
    cases z'
  have memT : ∀ p ∈ cs, p.2 ∈ cs.map (·.2) := fun p hp => List.mem_map.mpr ⟨p, hp, rfl⟩
  -- from an abstract heap in which nothing but the script and the tables may be tracked
  have core : ∀ H : Hp, (∀ p ∈ cs, H p.2 = some (.tbl #[])) → (∀ b, H b = none ∨ b ∈ cs.map (·.2) ∨ ∃ o xs, H b = some (.frz o (.lst xs))) → SqL K H a (ns.map V.int) → HOk P w H s₁.heap → (∀ b, H b ≠ none → b = a ∨ b ∈ cs.map (·.2)) → (H a ≠ none → K.lookup a = none) →
      codeAny (model P w) callerA (.call (.ref fa) ⟨[.ref a], []⟩) (fun r s' => r = .ok (.ret (.bool true)) ∧ OldK s₁.heap s'.heap ∧ s'.os = s₁.os ∧ AllBare s'.gens) s₁ := by
    intro H hH hO hS hok hA hK
    have base_of : ∀ {b : Addr} {o : Obj}, s₁.heap.get? b = some o → H b = none → (hidT s₁.heap H).get? b = some o := fun e n => hidT_get e n
    have noD : ∀ {b : Addr} {o : Obj}, s₁.heap.get? b = some o → (∀ vs n, o.data ≠ .seq vs n) → o.data ≠ .fields #[] → H b = none := fun {b o} e h1 h2 => by
      cases q : H b with
      | none => rfl
      | some u =>
        rcases hA b (by rw [q]; simp) with e' | e'
        · rw [e', ha] at e
          cases e
          exact (h1 _ _ rfl).elim
        · rw [isT b e'] at e
          cases e
          exact (h2 rfl).elim
    have noA : ∀ {b : Addr} {o : Obj} {es : Array DictEntry} {ep : Nat}, s₁.heap.get? b = some o → o.data = .dict es ep → H b = none := fun {b o es ep} e d => by
      refine noD e (fun vs n z => ?_) fun z => ?_
      · rw [d] at z
        cases z
      · rw [d] at z
        cases z
    have nsK : ∀ {b : Addr} {m : Str → Option Value}, s₁.heap.Ns b m → (hidT s₁.heap H).Ns b m := fun {b m} ⟨o, es, ep, e, d, r⟩ => ⟨o, es, ep, base_of e (noA e d), d, r⟩
    have hKb : K.In (hidT s₁.heap H) := fun b o e => base_of (KX b o e) (by
      cases q : H b with
      | none => rfl
      | some u =>
        rcases hA b (by rw [q]; simp) with e' | e'
        · rw [e'] at e q
          rw [hK (by rw [q]; simp)] at e
          cases e
        · obtain ⟨p, hp, ep⟩ := List.mem_map.mp e'
          rw [← ep, nT p hp] at e
          cases e)
    have hM : L2.Mod K mg (hidT s₁.heap H) := ⟨hKb, nsK hns, ⟨mb, nsK hb, hbb⟩, let ⟨mc, h1, h2⟩ := hlim; ⟨mc, nsK h1, h2⟩⟩
    have TB : ∀ p ∈ cs, TabB (hidT s₁.heap H) mg p.1 p.2 := fun p hp => by
      have hTp := hT p hp
      refine ⟨?_, ?_, fun z => ?_⟩
      · obtain ⟨o, us, file, tf, flags, tg, inF, text, tt, e1, r1, r2, r3, r4, r5, r6, r7, r8, hne⟩ := C p hp
        refine ⟨o, us, file, tf, flags, tg, inF, text, tt, base_of e1 (noD e1 (fun vs n z => ?_) fun z => ?_), r1, r2, r3, r4, r5, r6, r7, r8, hne⟩
        · rw [r2] at z
          cases z
        · rw [r2] at z
          cases z
          simp at r3
      · obtain ⟨bm, ob, b1, b2, b3, b4, b5, b6⟩ := hbm
        have nG : bm ≠ mainGlobals := fun q => by
          obtain ⟨o, es, ep, e, hd, _⟩ := hns
          rw [q, e] at b3
          cases b3
          rw [hd] at b6
          cases b6
        have nP : bm ≠ p.2 := fun q => by
          rw [q, hTp] at b3
          cases b3
          cases b6
        refine ⟨bm, ob, b1, b2, nG, nP, base_of b3 (noD b3 (fun vs n z => ?_) fun z => ?_), b4, b5, b6⟩
        · rw [b6] at z
          cases z
        · rw [b6] at z
          cases z
      · obtain ⟨o, es, ep, e, hd, _⟩ := hns
        rw [z, hTp] at e
        cases e
        cases hd
    have e0 : Env0 P w K mg (hidT s₁.heap H) callerA [] s₁ H := ⟨rfl, hM, fun b o e => of_hidT e, Nat.le_of_eq (hidT_size _ _), trivial, fun b hb => absurd (show b ∈ ([] : List Addr) from hb) (by simp), hok, .of_eq hg⟩
    refine codeAny_mono ((F _ hKb (nsK hns) TB).run callerA [] s₁ H ⟨[.ref a], []⟩ [.ref a] [.ref a] _ _ hr rfl e0 (hbind s₁ (.ref a)) (.cons rfl .nil) (hsp H hH hS)) fun r s' h => ?_
    cases r with
    | error e => exact h.elim
    | ok fl =>
      cases fl with
      | next => exact False.elim h
      | brk => exact False.elim h
      | cont => exact False.elim h
      | ret u =>
        obtain ⟨v, H', os, bare, un, hok', r', q⟩ := h
        have q' : v = .bl true := q
        subst q'
        obtain rfl : u = Value.bool true := r'
        have key : ∀ b o, b ∉ cs.map (·.2) → s₁.heap.get? b = some o → s'.heap.get? b = some o := fun b o nb e => by
          cases q : H b with
          | none => exact un.keep b o e q (by intro z; exact absurd (show b ∈ ([] : List Addr) from z) (by simp)) (by simp)
          | some u =>
            rcases hO b with z | z | ⟨ob, xs, z⟩
            · rw [q] at z; cases z
            · exact absurd z nb
            · have z2 := un.frzs b ob _ z
              obtain ⟨e1, _⟩ := hok b _ z
              obtain ⟨e2, _⟩ := hok' b _ z2
              rw [e] at e1; cases e1
              exact e2
        have grown : ∀ p ∈ cs, ∃ more : Array Value, s'.heap.get? p.2 = some { cls := .none, data := .fields more } := fun p hp => by
          obtain ⟨more, z⟩ := un.tbls p.2 #[] (hH p hp)
          exact ⟨_, hok' p.2 _ z⟩
        refine ⟨rfl, ⟨fun b o e => ?_, fun b o e => ?_⟩, os, bare⟩
        · by_cases hb : b ∈ cs.map (·.2)
          · obtain ⟨p, hp, ep⟩ := List.mem_map.mp hb
            obtain ⟨more, hm⟩ := grown p hp
            rw [← ep] at e ⊢
            rw [hT p hp] at e
            cases e
            exact .inr (.inl ⟨((C p hp).tab (hT p hp)).isCodeTable, rfl, #[], more, rfl, by rw [Array.empty_append]; exact hm⟩)
          · exact .inl (key b o hb e)
        · by_cases hb : b ∈ cs.map (·.2)
          · obtain ⟨p, hp, ep⟩ := List.mem_map.mp hb
            obtain ⟨more, hm⟩ := grown p hp
            rw [← ep]
            exact ⟨_, hm⟩
          · exact ⟨o, key b o hb e⟩
  cases hk : K.lookup a with
  | some o =>
    have e := KX a o hk
    rw [ha] at e
    cases e
    refine core (fun b => if b ∈ cs.map (·.2) then some (.tbl #[]) else none) (fun p hp => if_pos (memT p hp)) (fun b => ?_) (.inr ⟨_, vs.toArray, _, hk, rfl, rfl, rfl, by rw [List.size_toArray, lenV]; exact hl, by simpa using rv⟩) (fun b u z => ?_) (fun b z => ?_) fun z => absurd (show (if a ∈ cs.map (·.2) then some (HO.tbl #[]) else none) = none from if_neg aT) z
    · by_cases hb : b ∈ cs.map (·.2)
      · exact .inr (.inl hb)
      · exact .inl (if_neg hb)
    · by_cases hb : b ∈ cs.map (·.2)
      · have z' := (if_pos hb).symm.trans z
        cases z'
        exact isT b hb
      · have z' := (if_neg hb).symm.trans z
        cases z'
    · by_cases hb : b ∈ cs.map (·.2)
      · exact .inr hb
      · exact absurd (if_neg hb) z
  | none =>
    refine core (fun b => if b = a then some (.frz { cls := .type "list", data := .seq vs.toArray } (.lst (ns.map V.int))) else if b ∈ cs.map (·.2) then some (.tbl #[]) else none) (fun p hp => (if_neg (show ¬ p.2 = a from fun z => aT (by rw [← z]; exact memT p hp))).trans (if_pos (memT p hp))) (fun b => ?_)
      (.inl (.inr ⟨{ cls := .type "list", data := .seq vs.toArray }, if_pos rfl⟩)) (fun b u z => ?_) (fun b z => ?_) fun _ => hk
    · by_cases hb : b = a
      · exact .inr (.inr ⟨_, _, if_pos hb⟩)
      · by_cases hb2 : b ∈ cs.map (·.2)
        · exact .inr (.inl hb2)
        · exact .inl ((if_neg hb).trans (if_neg hb2))
    · by_cases hb : b = a
      · have z' := (if_pos hb).symm.trans z
        cases z'
        rw [hb]
        exact ⟨ha, by rw [List.length_map]; exact hl, vs, _, rv, ha⟩
      · have z1 := (if_neg hb).symm.trans z
        by_cases hb2 : b ∈ cs.map (·.2)
        · have z' := (if_pos hb2).symm.trans z1
          cases z'
          exact isT b hb2
        · have z' := (if_neg hb2).symm.trans z1
          cases z'
    · by_cases hb : b = a
      · exact .inl hb
      · by_cases hb2 : b ∈ cs.map (·.2)
        · exact .inr hb2
        · exact absurd ((if_neg hb).trans (if_neg hb2)) z

theorem walk_ofTG {l : PySem.W.OpenLaw} {n k : Nat} {q : Program} {loose : List Str} {XP : (Str → Option Value) → Heap → Prop} {YP : World → Heap → Prop} {d : DefRec} {K : Params → PySem.W.Frag} {x : Str}
    (hn : l.most = some n) (hn2 : n ≤ sizeLine) (hdf : d.params.defaults = []) (hr : Room k callerA) (hY : ∀ (w : World) (h : Heap), YP w h → (K w.params).In h)
    (F : ∀ (w : World) (mg : Str → Option Value) (fa : Addr) (h : Heap), YP w h → (K w.params).In h → h.Ns mainGlobals mg → mg d.name = some (.ref fa) →
      ∃ (fd : FuncData) (cs : List (Addr × Addr)) (sp : Sp), (∀ p ∈ cs, h.get? p.2 = some { cls := .none, data := .fields #[] }) ∧ (∀ p ∈ cs, (K w.params).lookup p.2 = none) ∧ (∀ p ∈ cs, PySem.W.CodeHd h p.1 p.2) ∧ (∀ (s : Shared) (u : Value), BindsTo s fd ⟨[u], []⟩ [(x, u)]) ∧
        (∀ (H : Hp) (a : Addr) (ns : List Int), ns.length ≤ n → (∀ p ∈ cs, H p.2 = some (.tbl #[])) → SqL (K w.params) H a (ns.map V.int) → sp [.ref a] H (fun v _ => v = .bl true) fun _ _ _ => False) ∧
        ∀ base : Heap, (K w.params).In base → base.Ns mainGlobals mg → (∀ p ∈ cs, TabB base mg p.1 p.2) → FnG l.prog w (K w.params) mg base k fa fd [x] sp) :
    PySem.W.WalkO q loose XP YP l.row.toRowW d [] (fun f vs => PySem.call f vs) := by
  refine Att.attach_call hn hdf fun w s₀ s₁ mg mb fa o pm cd doc a vs ns G Y ho hd hcd hmg hobj hints hlen hg => ?_
  have KX := hY w _ Y
  obtain ⟨fd, cs, sp, hT, nT, C, hb, hsp, hF⟩ := F w mg fa _ Y KX G.T.g hmg
  exact law_callTG KX G.T.g G.T.b G.T.builtins G.T.nolimit hg hT nT C G.T.bmain hobj hints (Nat.le_trans hlen hn2) hr hF hb (fun H hH hS => hsp H a ns hlen hH hS)
end K2
end
section
set_option Elab.async false
set_option maxRecDepth 100000
set_option linter.all false
namespace K2
open PySem L2 LamX
theorem kit_ref {K : PySem.W.Frag} {D C : Addr} {b : Bool} (ne : (D == C) = false) (c : PySem.W.isClsIn K C = true) (t : PySem.W.typeIn K (.ref C) = some (.type "type")) (s : PySem.W.subIn K (.ref D) (.ref C) = some b) : PySem.W.kitOne K (.ref D) (.ref C) = some b := by
  have q : PySem.W.kitCls K (.ref D) (.ref C) = some b := by
    show (if ((PySem.W.clsIn K C).isSome && PySem.W.typeIn K (.ref C) == some (.type "type")) = true then PySem.W.subIn K (.ref D) (.ref C) else none) = some b
    have c' : (PySem.W.clsIn K C).isSome = true := c
    rw [c', t, if_pos (by simp)]
    exact s
  unfold PySem.W.kitOne
  rw [if_neg ?_]
  · exact q
  · intro z
    have e : D = C := Value.ref.inj (beq_iff_eq.mp z)
    rw [e] at ne
    simp at ne
theorem kit_same {K : PySem.W.Frag} {D : Addr} : PySem.W.kitOne K (.ref D) (.ref D) = some true := by
  unfold PySem.W.kitOne
  rw [if_pos (by simp)]
theorem kit_ve {K : PySem.W.Frag} {D : Addr} (s : PySem.W.subIn K (.ref D) (.type "ValueError") = some true) : PySem.W.kitOne K (.ref D) (.type "ValueError") = some true := by
  have q : PySem.W.kitCls K (.ref D) (.type "ValueError") = some true := by
    show (if PySem.W.kitMeta "ValueError" = true then PySem.W.subIn K (.ref D) (.type "ValueError") else none) = some true
    rw [if_pos (by decide +kernel)]
    exact s
  unfold PySem.W.kitOne
  rw [if_neg (by simp)]
  exact q
theorem any_no {K : PySem.W.Frag} {t c : Value} {r : List Value} (h : PySem.W.kitOne K t c = some false) (k : PySem.W.kitAny K t r = some false) : PySem.W.kitAny K t (c :: r) = some false := by
  show (match PySem.W.kitOne K t c with | some true => some true | some false => PySem.W.kitAny K t r | none => none) = some false
  rw [h]
  exact k
def chkS : List Str → List Value → Bool
  | [], [] => true
  | x :: xs, .str y _ :: us => decide (x = y) && chkS xs us
  | _, _ => false
theorem chk_vals : ∀ {xs : List Str} {us : List Value}, chkS xs us = true → Vals (xs.map V.str) us
  | [], [], _ => .nil
  | x :: xs, .str y t :: us, h => by
    have h2 := Bool.and_eq_true_iff.mp (show (decide (x = y) && chkS xs us) = true from h)
    have e := of_decide_eq_true h2.1
    subst e
    exact .cons ⟨t, rfl⟩ (chk_vals h2.2)

theorem all_mk {l : PySem.W.OpenLaw} {w : World} {K : PySem.W.Frag} {h : Heap} {mg : Str → Option Value} {fa C pM aR cC cP cE0 cE1 cE2 cE3 cE4 cE5 cE6 cE7 cE8 cE9 cE10 cE11 cE12 : Addr} {rest : List Value} {t1 t2 t3 : Tok} {ddR : Option Addr} {itsR : Array Value} {nR2 : Nat} {slR : Array (Option Value)} {nm_x q_x N_x bs_x bm_x sn_x sub_x ab_x col_x dd_x k0_x k1_x k2_x k3_x k5_x nm_z q_z N_z bs_z bm_z sn_z sub_z ab_z col_z dd_z k0_z k1_z k2_z k3_z k5_z} (X : K.In h) (G : h.Ns mainGlobals mg) (hfa : mg "law" = some (.ref fa))
    {fIW fAW fAD fFA fLI fPN fD fPK fBA fWO fBE fMI fRO fRS fHE fUP fFR fLR fTW fLW fIN fMA fWI fKD fKI fIA fME fKO fCO fEQ fWR fTI fNI : Addr} {odIW anIW odAW anAW odAD anAD odFA anFA odLI anLI odPN anPN odD anD odPK anPK odBA anBA odWO anWO odBE anBE odMI anMI odRO anRO odRS anRS odHE anHE odUP anUP odFR anFR odLR anLR odTW anTW odLW anLW odIN anIN odMA anMA odWI anWI odKD anKD odKI anKI odIA anIA odME anME odKO anKO odCO anCO odEQ anEQ odWR anWR odTI anTI odNI anNI : Option Addr} {slIW slAW slAD slFA slLI slPN slD slPK slBA slWO slBE slMI slRO slRS slHE slUP slFR slLR slTW slLW slIN slMA slWI slKD slKI slIA slME slKO slCO slEQ slWR slTI slNI : Array (Option Value)} {ocIW kVIW dcIW pmIW cdIW ctIW ocAW kVAW dcAW pmAW cdAW ctAW ocAD kVAD dcAD pmAD cdAD ctAD ocFA kVFA dcFA pmFA cdFA ctFA ocLI kVLI dcLI pmLI cdLI ctLI ocPN kVPN dcPN pmPN cdPN ctPN ocD kVD dcD pmD cdD ctD ocPK kVPK dcPK pmPK cdPK ctPK ocBA kVBA dcBA pmBA cdBA ctBA ocWO kVWO dcWO pmWO cdWO ctWO ocBE kVBE dcBE pmBE cdBE ctBE ocMI kVMI dcMI pmMI cdMI ctMI ocRO kVRO dcRO pmRO cdRO ctRO ocRS kVRS dcRS pmRS cdRS ctRS ocHE kVHE dcHE pmHE cdHE ctHE ocUP kVUP dcUP pmUP cdUP ctUP ocFR kVFR dcFR pmFR cdFR ctFR ocLR kVLR dcLR pmLR cdLR ctLR ocTW kVTW dcTW pmTW cdTW ctTW ocLW kVLW dcLW pmLW ctLW ocIN kVIN dcIN pmIN cdIN ctIN ocMA kVMA dcMA pmMA cdMA ctMA ocWI kVWI dcWI pmWI cdWI ctWI ocKD kVKD dcKD pmKD cdKD ctKD ocKI kVKI dcKI pmKI cdKI ctKI ocIA kVIA dcIA pmIA cdIA ctIA ocME kVME dcME pmME cdME ctME ocKO kVKO dcKO pmKO cdKO ctKO ocCO kVCO dcCO pmCO cdCO ctCO ocEQ kVEQ dcEQ pmEQ cdEQ ctEQ ocWR kVWR dcWR pmWR cdWR ctWR ocTI kVTI dcTI pmTI cdTI ctTI ocNI kVNI dcNI pmNI cdNI ctNI : Value}
    (aIW : PySem.W.nsIn K mainGlobals "is_word" = some (some (.ref fIW)))
    (aAW : PySem.W.nsIn K mainGlobals "are_words" = some (some (.ref fAW)))
    (aAD : PySem.W.nsIn K mainGlobals "are_different" = some (some (.ref fAD)))
    (aFA : PySem.W.nsIn K mainGlobals "_fault" = some (some (.ref fFA)))
    (aLI : PySem.W.nsIn K mainGlobals "_line" = some (some (.ref fLI)))
    (aPN : PySem.W.nsIn K mainGlobals "_law_pen" = some (some (.ref fPN)))
    (aD : PySem.W.nsIn K mainGlobals "_law_draw" = some (some (.ref fD)))
    (aPK : PySem.W.nsIn K mainGlobals "_law_pick" = some (some (.ref fPK)))
    (aBA : PySem.W.nsIn K mainGlobals "_law_barred" = some (some (.ref fBA)))
    (aWO : PySem.W.nsIn K mainGlobals "_law_words" = some (some (.ref fWO)))
    (aBE : PySem.W.nsIn K mainGlobals "_law_begun" = some (some (.ref fBE)))
    (aMI : PySem.W.nsIn K mainGlobals "_law_mixed" = some (some (.ref fMI)))
    (aRO : PySem.W.nsIn K mainGlobals "_law_row" = some (some (.ref fRO)))
    (aRS : PySem.W.nsIn K mainGlobals "_law_rows" = some (some (.ref fRS)))
    (aHE : PySem.W.nsIn K mainGlobals "_law_heard" = some (some (.ref fHE)))
    (aUP : PySem.W.nsIn K mainGlobals "_law_uppers" = some (some (.ref fUP)))
    (aFR : PySem.W.nsIn K mainGlobals "_law_fresh" = some (some (.ref fFR)))
    (aLR : PySem.W.nsIn K mainGlobals "_law_later_right" = some (some (.ref fLR)))
    (aTW : PySem.W.nsIn K mainGlobals "_law_twice_right" = some (some (.ref fTW)))
    (aLW : PySem.W.nsIn K mainGlobals "law" = some (some (.ref fLW)))
    (lIW : K.lookup fIW = some ⟨ocIW, odIW, .func (PySem.W.fnOf "is_word" "is_word" (defArgs sIsW) (defBody sIsW) (defScope sIsW) .none kVIW dcIW pmIW anIW cdIW ctIW), slIW⟩) (cIW : PySem.W.codeIn K cdIW "is_word" = true) (kIW : PySem.W.keepIn K (.ref fIW) = true)
    (lAW : K.lookup fAW = some ⟨ocAW, odAW, .func (PySem.W.fnOf "are_words" "are_words" (defArgs sAreW) (defBody sAreW) (defScope sAreW) .none kVAW dcAW pmAW anAW cdAW ctAW), slAW⟩) (cAW : PySem.W.codeIn K cdAW "are_words" = true) (kAW : PySem.W.keepIn K (.ref fAW) = true)
    (lAD : K.lookup fAD = some ⟨ocAD, odAD, .func (PySem.W.fnOf "are_different" "are_different" (defArgs sAreD) (defBody sAreD) (defScope sAreD) .none kVAD dcAD pmAD anAD cdAD ctAD), slAD⟩) (cAD : PySem.W.codeIn K cdAD "are_different" = true) (kAD : PySem.W.keepIn K (.ref fAD) = true)
    (lFA : K.lookup fFA = some ⟨ocFA, odFA, .func (PySem.W.fnOf "_fault" "_fault" (defArgs sFault) (defBody sFault) (defScope sFault) .none kVFA dcFA pmFA anFA cdFA ctFA), slFA⟩) (cFA : PySem.W.codeIn K cdFA "_fault" = true) (kFA : PySem.W.keepIn K (.ref fFA) = true)
    (lLI : K.lookup fLI = some ⟨ocLI, odLI, .func (PySem.W.fnOf "_line" "_line" (defArgs sLine) (defBody sLine) (defScope sLine) .none kVLI dcLI pmLI anLI cdLI ctLI), slLI⟩) (cLI : PySem.W.codeIn K cdLI "_line" = true) (kLI : PySem.W.keepIn K (.ref fLI) = true)
    (lPN : K.lookup fPN = some ⟨ocPN, odPN, .func (PySem.W.fnOf "_law_pen" "_law_pen" (defArgs sPen) (defBody sPen) (defScope sPen) .none kVPN dcPN pmPN anPN cdPN ctPN), slPN⟩) (cPN : PySem.W.codeIn K cdPN "_law_pen" = true) (kPN : PySem.W.keepIn K (.ref fPN) = true)
    (lD : K.lookup fD = some ⟨ocD, odD, .func (PySem.W.fnOf "_law_draw" "_law_draw" (defArgs sDraw) (defBody sDraw) (defScope sDraw) .none kVD dcD pmD anD cdD ctD), slD⟩) (cD : PySem.W.codeIn K cdD "_law_draw" = true) (kD : PySem.W.keepIn K (.ref fD) = true)
    (lPK : K.lookup fPK = some ⟨ocPK, odPK, .func (PySem.W.fnOf "_law_pick" "_law_pick" (defArgs sPick) (defBody sPick) (defScope sPick) .none kVPK dcPK pmPK anPK cdPK ctPK), slPK⟩) (cPK : PySem.W.codeIn K cdPK "_law_pick" = true) (kPK : PySem.W.keepIn K (.ref fPK) = true)
    (lBA : K.lookup fBA = some ⟨ocBA, odBA, .func (PySem.W.fnOf "_law_barred" "_law_barred" (defArgs sBarred) (defBody sBarred) (defScope sBarred) .none kVBA dcBA pmBA anBA cdBA ctBA), slBA⟩) (cBA : PySem.W.codeIn K cdBA "_law_barred" = true) (kBA : PySem.W.keepIn K (.ref fBA) = true)
    (lWO : K.lookup fWO = some ⟨ocWO, odWO, .func (PySem.W.fnOf "_law_words" "_law_words" (defArgs sWords) (defBody sWords) (defScope sWords) .none kVWO dcWO pmWO anWO cdWO ctWO), slWO⟩) (cWO : PySem.W.codeIn K cdWO "_law_words" = true) (kWO : PySem.W.keepIn K (.ref fWO) = true)
    (lBE : K.lookup fBE = some ⟨ocBE, odBE, .func (PySem.W.fnOf "_law_begun" "_law_begun" (defArgs sBegun) (defBody sBegun) (defScope sBegun) .none kVBE dcBE pmBE anBE cdBE ctBE), slBE⟩) (cBE : PySem.W.codeIn K cdBE "_law_begun" = true) (kBE : PySem.W.keepIn K (.ref fBE) = true)
    (lMI : K.lookup fMI = some ⟨ocMI, odMI, .func (PySem.W.fnOf "_law_mixed" "_law_mixed" (defArgs sMixed) (defBody sMixed) (defScope sMixed) .none kVMI dcMI pmMI anMI cdMI ctMI), slMI⟩) (cMI : PySem.W.codeIn K cdMI "_law_mixed" = true) (kMI : PySem.W.keepIn K (.ref fMI) = true)
    (lRO : K.lookup fRO = some ⟨ocRO, odRO, .func (PySem.W.fnOf "_law_row" "_law_row" (defArgs sRow) (defBody sRow) (defScope sRow) .none kVRO dcRO pmRO anRO cdRO ctRO), slRO⟩) (cRO : PySem.W.codeIn K cdRO "_law_row" = true) (kRO : PySem.W.keepIn K (.ref fRO) = true)
    (lRS : K.lookup fRS = some ⟨ocRS, odRS, .func (PySem.W.fnOf "_law_rows" "_law_rows" (defArgs sRows) (defBody sRows) (defScope sRows) .none kVRS dcRS pmRS anRS cdRS ctRS), slRS⟩) (cRS : PySem.W.codeIn K cdRS "_law_rows" = true) (kRS : PySem.W.keepIn K (.ref fRS) = true)
    (lHE : K.lookup fHE = some ⟨ocHE, odHE, .func (PySem.W.fnOf "_law_heard" "_law_heard" (defArgs sHeard) (defBody sHeard) (defScope sHeard) .none kVHE dcHE pmHE anHE cdHE ctHE), slHE⟩) (cHE : PySem.W.codeIn K cdHE "_law_heard" = true) (kHE : PySem.W.keepIn K (.ref fHE) = true)
    (lUP : K.lookup fUP = some ⟨ocUP, odUP, .func (PySem.W.fnOf "_law_uppers" "_law_uppers" (defArgs sUppers) (defBody sUppers) (defScope sUppers) .none kVUP dcUP pmUP anUP cdUP ctUP), slUP⟩) (cUP : PySem.W.codeIn K cdUP "_law_uppers" = true) (kUP : PySem.W.keepIn K (.ref fUP) = true)
    (lFR : K.lookup fFR = some ⟨ocFR, odFR, .func (PySem.W.fnOf "_law_fresh" "_law_fresh" (defArgs sFresh) (defBody sFresh) (defScope sFresh) .none kVFR dcFR pmFR anFR cdFR ctFR), slFR⟩) (cFR : PySem.W.codeIn K cdFR "_law_fresh" = true) (kFR : PySem.W.keepIn K (.ref fFR) = true)
    (lLR : K.lookup fLR = some ⟨ocLR, odLR, .func (PySem.W.fnOf "_law_later_right" "_law_later_right" (defArgs sLR) (defBody sLR) (defScope sLR) .none kVLR dcLR pmLR anLR cdLR ctLR), slLR⟩) (cLR : PySem.W.codeIn K cdLR "_law_later_right" = true) (kLR : PySem.W.keepIn K (.ref fLR) = true)
    (lTW : K.lookup fTW = some ⟨ocTW, odTW, .func (PySem.W.fnOf "_law_twice_right" "_law_twice_right" (defArgs sTW) (defBody sTW) (defScope sTW) .none kVTW dcTW pmTW anTW cdTW ctTW), slTW⟩) (cTW : PySem.W.codeIn K cdTW "_law_twice_right" = true) (kTW : PySem.W.keepIn K (.ref fTW) = true)
    (lLW : K.lookup fLW = some ⟨ocLW, odLW, .func (PySem.W.fnOf "law" "law" (defArgs sLaw) (defBody sLaw) (defScope sLaw) .none kVLW dcLW pmLW anLW (.ref cC) ctLW), slLW⟩) (cLW : PySem.W.codeIn K (.ref cC) "law" = true) (kLW : PySem.W.keepIn K (.ref fLW) = true)
    (lIN : K.lookup fIN = some ⟨ocIN, odIN, .func (PySem.W.fnOf "__init__" "Classes.__init__" (defArgs sInit) (defBody sInit) (defScope sInit) .none kVIN dcIN pmIN anIN cdIN ctIN), slIN⟩) (cIN : PySem.W.codeIn K cdIN "Classes.__init__" = true) (kIN : PySem.W.keepIn K (.ref fIN) = true)
    (lMA : K.lookup fMA = some ⟨ocMA, odMA, .func (PySem.W.fnOf "made" "Classes.made" (defArgs sMade) (defBody sMade) (defScope sMade) .none kVMA dcMA pmMA anMA cdMA ctMA), slMA⟩) (cMA : PySem.W.codeIn K cdMA "Classes.made" = true) (kMA : PySem.W.keepIn K (.ref fMA) = true)
    (lWI : K.lookup fWI = some ⟨ocWI, odWI, .func (PySem.W.fnOf "within" "Classes.within" (defArgs sWithin) (defBody sWithin) (defScope sWithin) .none kVWI dcWI pmWI anWI cdWI ctWI), slWI⟩) (cWI : PySem.W.codeIn K cdWI "Classes.within" = true) (kWI : PySem.W.keepIn K (.ref fWI) = true)
    (lKD : K.lookup fKD = some ⟨ocKD, odKD, .func (PySem.W.fnOf "kind" "Classes.kind" (defArgs sKind) (defBody sKind) (defScope sKind) .none kVKD dcKD pmKD anKD cdKD ctKD), slKD⟩) (cKD : PySem.W.codeIn K cdKD "Classes.kind" = true) (kKD : PySem.W.keepIn K (.ref fKD) = true)
    (lKI : K.lookup fKI = some ⟨ocKI, odKI, .func (PySem.W.fnOf "kinds" "Classes.kinds" (defArgs sKinds) (defBody sKinds) (defScope sKinds) .none kVKI dcKI pmKI anKI cdKI ctKI), slKI⟩) (cKI : PySem.W.codeIn K cdKI "Classes.kinds" = true) (kKI : PySem.W.keepIn K (.ref fKI) = true)
    (lIA : K.lookup fIA = some ⟨ocIA, odIA, .func (PySem.W.fnOf "_is_apart" "Classes._is_apart" (defArgs sIA) (defBody sIA) (defScope sIA) .none kVIA dcIA pmIA anIA cdIA ctIA), slIA⟩) (cIA : PySem.W.codeIn K cdIA "Classes._is_apart" = true) (kIA : PySem.W.keepIn K (.ref fIA) = true)
    (lME : K.lookup fME = some ⟨ocME, odME, .func (PySem.W.fnOf "meets" "Classes.meets" (defArgs sMeets) (defBody sMeets) (defScope sMeets) .none kVME dcME pmME anME cdME ctME), slME⟩) (cME : PySem.W.codeIn K cdME "Classes.meets" = true) (kME : PySem.W.keepIn K (.ref fME) = true)
    (lKO : K.lookup fKO = some ⟨ocKO, odKO, .func (PySem.W.fnOf "kind_of" "Classes.kind_of" (defArgs sKO) (defBody sKO) (defScope sKO) .none kVKO dcKO pmKO anKO cdKO ctKO), slKO⟩) (cKO : PySem.W.codeIn K cdKO "Classes.kind_of" = true) (kKO : PySem.W.keepIn K (.ref fKO) = true)
    (lCO : K.lookup fCO = some ⟨ocCO, odCO, .func (PySem.W.fnOf "__contains__" "Classes.__contains__" (defArgs sCo) (defBody sCo) (defScope sCo) .none kVCO dcCO pmCO anCO cdCO ctCO), slCO⟩) (cCO : PySem.W.codeIn K cdCO "Classes.__contains__" = true) (kCO : PySem.W.keepIn K (.ref fCO) = true)
    (lEQ : K.lookup fEQ = some ⟨ocEQ, odEQ, .func (PySem.W.fnOf "__eq__" "Classes.__eq__" (defArgs sEq) (defBody sEq) (defScope sEq) .none kVEQ dcEQ pmEQ anEQ cdEQ ctEQ), slEQ⟩) (cEQ : PySem.W.codeIn K cdEQ "Classes.__eq__" = true) (kEQ : PySem.W.keepIn K (.ref fEQ) = true)
    (lWR : K.lookup fWR = some ⟨ocWR, odWR, .func (PySem.W.fnOf "with_rows" "Classes.with_rows" (defArgs sWR) (defBody sWR) (defScope sWR) .none kVWR dcWR pmWR anWR cdWR ctWR), slWR⟩) (cWR : PySem.W.codeIn K cdWR "Classes.with_rows" = true) (kWR : PySem.W.keepIn K (.ref fWR) = true)
    (lTI : K.lookup fTI = some ⟨ocTI, odTI, .func (PySem.W.fnOf "__init__" "TooMany.__init__" (defArgs sTMI) (defBody sTMI) (defScope sTMI) .none kVTI dcTI pmTI anTI cdTI ctTI), slTI⟩) (cTI : PySem.W.codeIn K cdTI "TooMany.__init__" = true) (kTI : PySem.W.keepIn K (.ref fTI) = true)
    (lNI : K.lookup fNI = some ⟨ocNI, odNI, .func (PySem.W.fnOf "__init__" "NoClass.__init__" (defArgs sNCI) (defBody sNCI) (defScope sNCI) .none kVNI dcNI pmNI anNI cdNI ctNI), slNI⟩) (cNI : PySem.W.codeIn K cdNI "NoClass.__init__" = true) (kNI : PySem.W.keepIn K (.ref fNI) = true)
    (aC : PySem.W.nsIn K mainGlobals "Classes" = some (some (.ref C)))
    (aIN : PySem.W.findIn K (.ref C) "__init__" = some (some (.ref fIN)))
    (iIN : PySem.W.isFn K (.ref fIN) = true)
    (aWI : PySem.W.findIn K (.ref C) "within" = some (some (.ref fWI)))
    (iWI : PySem.W.isFn K (.ref fWI) = true)
    (aKD : PySem.W.findIn K (.ref C) "kind" = some (some (.ref fKD)))
    (iKD : PySem.W.isFn K (.ref fKD) = true)
    (aKI : PySem.W.findIn K (.ref C) "kinds" = some (some (.ref fKI)))
    (iKI : PySem.W.isFn K (.ref fKI) = true)
    (aIA : PySem.W.findIn K (.ref C) "_is_apart" = some (some (.ref fIA)))
    (iIA : PySem.W.isFn K (.ref fIA) = true)
    (aME : PySem.W.findIn K (.ref C) "meets" = some (some (.ref fME)))
    (iME : PySem.W.isFn K (.ref fME) = true)
    (aKO : PySem.W.findIn K (.ref C) "kind_of" = some (some (.ref fKO)))
    (iKO : PySem.W.isFn K (.ref fKO) = true)
    (aCO : PySem.W.findIn K (.ref C) "__contains__" = some (some (.ref fCO)))
    (iCO : PySem.W.isFn K (.ref fCO) = true)
    (aEQ : PySem.W.findIn K (.ref C) "__eq__" = some (some (.ref fEQ)))
    (iEQ : PySem.W.isFn K (.ref fEQ) = true)
    (aWR : PySem.W.findIn K (.ref C) "with_rows" = some (some (.ref fWR)))
    (iWR : PySem.W.isFn K (.ref fWR) = true)
    (nE : PySem.W.findIn K (.ref C) "__ne__" = some (some (.builtin "object.__ne__")))
    (ha : PySem.W.findIn K (.ref C) "__class__" = some (some (.builtin "object.__class__")))
    (hmo : PySem.W.mroIn K C (.type "object") = some true)
    (e_LeaveError : PySem.W.nsIn K mainGlobals "LeaveError" = some (some (.ref cE0)))
    (e_NoClass : PySem.W.nsIn K mainGlobals "NoClass" = some (some (.ref cE1)))
    (e_NoFunction : PySem.W.nsIn K mainGlobals "NoFunction" = some (some (.ref cE2)))
    (e_NoProgram : PySem.W.nsIn K mainGlobals "NoProgram" = some (some (.ref cE3)))
    (e_NoName : PySem.W.nsIn K mainGlobals "NoName" = some (some (.ref cE4)))
    (e_NoCase : PySem.W.nsIn K mainGlobals "NoCase" = some (some (.ref cE5)))
    (e_TooMany : PySem.W.nsIn K mainGlobals "TooMany" = some (some (.ref cE6)))
    (e_NoText : PySem.W.nsIn K mainGlobals "NoText" = some (some (.ref cE7)))
    (e_NoAct : PySem.W.nsIn K mainGlobals "NoAct" = some (some (.ref cE8)))
    (e_NoRecord : PySem.W.nsIn K mainGlobals "NoRecord" = some (some (.ref cE9)))
    (e_Barred : PySem.W.nsIn K mainGlobals "Barred" = some (some (.ref cE10)))
    (e_Unlike : PySem.W.nsIn K mainGlobals "Unlike" = some (some (.ref cE11)))
    (e_NoRow : PySem.W.nsIn K mainGlobals "NoRow" = some (some (.ref cE12)))
    (aTI : PySem.W.findIn K (.ref cE6) "__init__" = some (some (.ref fTI)))
    (tTI : PySem.W.typeIn K (.ref fTI) = some (.type "function"))
    (aNI : PySem.W.findIn K (.ref cE1) "__init__" = some (some (.ref fNI)))
    (tNI : PySem.W.typeIn K (.ref fNI) = some (.type "function"))
    (oK_x : K.lookup cE6 = some (excClassObj nm_x q_x cE6 N_x bs_x bm_x true sn_x sub_x ab_x col_x dd_x k0_x k1_x k2_x k3_x k5_x "ValueError.__new__"))
    (oR_x : PySem.HandSPX.refsVE bm_x = true)
    (x_sa : PySem.W.findIn K (.ref cE6) "__setattr__" = some (some (.builtin "object.__setattr__")))
    (x_be : PySem.W.subIn K (.ref cE6) (.type "BaseException") = some true)
    (x_ty : PySem.W.typeIn K (.ref cE6) = some (.type "type"))
    (x_kp : PySem.W.keepIn K (.ref cE6) = true)
    (oK_z : K.lookup cE1 = some (excClassObj nm_z q_z cE1 N_z bs_z bm_z true sn_z sub_z ab_z col_z dd_z k0_z k1_z k2_z k3_z k5_z "ValueError.__new__"))
    (oR_z : PySem.HandSPX.refsVE bm_z = true)
    (z_sa : PySem.W.findIn K (.ref cE1) "__setattr__" = some (some (.builtin "object.__setattr__")))
    (z_be : PySem.W.subIn K (.ref cE1) (.type "BaseException") = some true)
    (z_ty : PySem.W.typeIn K (.ref cE1) = some (.type "type"))
    (z_kp : PySem.W.keepIn K (.ref cE1) = true)
    (x_wh : PySem.W.findIn K (.ref cE6) "what" = some none)
    (x_mo : PySem.W.findIn K (.ref cE6) "most" = some none)
    (z_re : PySem.W.findIn K (.ref cE1) "reason" = some none)
    (z_pl : PySem.W.findIn K (.ref cE1) "place" = some none)
    (z_ga : PySem.W.findIn K (.ref cE1) "__getattribute__" = some (some (.builtin "BaseException.__getattribute__")))
    (z_gg : PySem.W.findIn K (.ref cE1) "__getattr__" = some none)
    (z_hd : PySem.W.hasDictIn K cE1 = true)
    (z_cl : PySem.W.findIn K (.ref cE1) "__class__" = some (some (.builtin "object.__class__")))
    (x_gs : PySem.W.specialIn K (.builtin "object.__class__") "__get__" = some (some (.builtin "getset_descriptor.__get__")))
    (x_tk : PySem.W.takesIn K (.builtin "object.__class__") = some true)
    (z_ob : PySem.W.mroIn K cE1 (.type "object") = some true)
    (y_be : PySem.W.subIn K (.ref cE0) (.type "BaseException") = some true)
    (y_hd : PySem.W.hasDictIn K cE0 = true)
    (y_ty : PySem.W.typeIn K (.ref cE0) = some (.type "type"))
    (y_su : PySem.W.subIn K (.ref cE1) (.ref cE0) = some true)
    (z_ve : PySem.W.subIn K (.ref cE1) (.type "ValueError") = some true)
    (n2 : (cE1 == cE2) = false) (ic2 : PySem.W.isClsIn K cE2 = true) (ty2 : PySem.W.typeIn K (.ref cE2) = some (.type "type")) (su2 : PySem.W.subIn K (.ref cE1) (.ref cE2) = some false)
    (n3 : (cE1 == cE3) = false) (ic3 : PySem.W.isClsIn K cE3 = true) (ty3 : PySem.W.typeIn K (.ref cE3) = some (.type "type")) (su3 : PySem.W.subIn K (.ref cE1) (.ref cE3) = some false)
    (n4 : (cE1 == cE4) = false) (ic4 : PySem.W.isClsIn K cE4 = true) (ty4 : PySem.W.typeIn K (.ref cE4) = some (.type "type")) (su4 : PySem.W.subIn K (.ref cE1) (.ref cE4) = some false)
    (n5 : (cE1 == cE5) = false) (ic5 : PySem.W.isClsIn K cE5 = true) (ty5 : PySem.W.typeIn K (.ref cE5) = some (.type "type")) (su5 : PySem.W.subIn K (.ref cE1) (.ref cE5) = some false)
    (n6 : (cE1 == cE6) = false) (ic6 : PySem.W.isClsIn K cE6 = true) (ty6 : PySem.W.typeIn K (.ref cE6) = some (.type "type")) (su6 : PySem.W.subIn K (.ref cE1) (.ref cE6) = some false)
    (n7 : (cE1 == cE7) = false) (ic7 : PySem.W.isClsIn K cE7 = true) (ty7 : PySem.W.typeIn K (.ref cE7) = some (.type "type")) (su7 : PySem.W.subIn K (.ref cE1) (.ref cE7) = some false)
    (n8 : (cE1 == cE8) = false) (ic8 : PySem.W.isClsIn K cE8 = true) (ty8 : PySem.W.typeIn K (.ref cE8) = some (.type "type")) (su8 : PySem.W.subIn K (.ref cE1) (.ref cE8) = some false)
    (n9 : (cE1 == cE9) = false) (ic9 : PySem.W.isClsIn K cE9 = true) (ty9 : PySem.W.typeIn K (.ref cE9) = some (.type "type")) (su9 : PySem.W.subIn K (.ref cE1) (.ref cE9) = some false)
    (n10 : (cE1 == cE10) = false) (ic10 : PySem.W.isClsIn K cE10 = true) (ty10 : PySem.W.typeIn K (.ref cE10) = some (.type "type")) (su10 : PySem.W.subIn K (.ref cE1) (.ref cE10) = some false)
    (n11 : (cE1 == cE11) = false) (ic11 : PySem.W.isClsIn K cE11 = true) (ty11 : PySem.W.typeIn K (.ref cE11) = some (.type "type")) (su11 : PySem.W.subIn K (.ref cE1) (.ref cE11) = some false)
    (n12 : (cE1 == cE12) = false) (ic12 : PySem.W.isClsIn K cE12 = true) (ty12 : PySem.W.typeIn K (.ref cE12) = some (.type "type")) (su12 : PySem.W.subIn K (.ref cE1) (.ref cE12) = some false)
    (pg : PySem.W.plainGet K C Str.empty = true)
    (hd : PySem.W.hasDictIn K C = true)
    (po : PySem.W.plainOver K C = true)
    (sa : PySem.W.findIn K (.ref C) "__setattr__" = some (some (.builtin "object.__setattr__")))
    (mk : PySem.W.makesIn K C = true)
    (kc : PySem.W.keepIn K (.ref C) = true)
    (nR : PySem.W.findIn K (.ref C) "rows" = some none)
    (nN : PySem.W.findIn K (.ref C) "names" = some none)
    (nL : PySem.W.findIn K (.ref C) "_lines" = some none)
    (rd : PySem.W.readsIn K C (.type "type") = true)
    (ga : PySem.W.specialIn K (.ref C) "__getattribute__" = some (some (.builtin "type.__getattribute__")))
    (cm : PySem.W.findCls K (.ref C) (.type "type") "made" = some (.get (.builtin "classmethod.__get__") (.ref pM) .none (.ref C)))
    (rc : PySem.W.recIn K pM "classmethod" = some (.ref fMA :: rest))
    (fi : PySem.W.fnIn K fMA = true)
    (gKI : PySem.W.specialIn K (.ref fKD) "__get__" = some (some (.builtin "function.__get__")))
    (tKI : PySem.W.takesIn K (.ref fKD) = some false)
    (nKI : PySem.W.fnIn K fKD = true)
    (zL : PySem.W.nsIn K mainGlobals "LONGEST" = some (some (.int 8 t1)))
    (zM : PySem.W.nsIn K mainGlobals "MOST_ROWS" = some (some (.int 30 t2)))
    (z6 : PySem.W.nsIn K mainGlobals "MOST_FOR_KINDS" = some (some (.int 6 t3)))
    (zR : PySem.W.nsIn K mainGlobals "RESERVED" = some (some (.ref aR)))
    (lR : K.lookup aR = some ⟨.type "tuple", ddR, .seq itsR nR2, slR⟩)
    (vR : chkS resd itsR.toList = true)
    (szR : itsR.size ≤ sizeLine)
    (b_len : PySem.W.nsIn K mainGlobals "len" = some none)
    (b_int : PySem.W.nsIn K mainGlobals "int" = some none)
    (b_abs : PySem.W.nsIn K mainGlobals "abs" = some none)
    (b_range : PySem.W.nsIn K mainGlobals "range" = some none)
    (b_list : PySem.W.nsIn K mainGlobals "list" = some none)
    (b_tuple : PySem.W.nsIn K mainGlobals "tuple" = some none)
    (b_enumerate : PySem.W.nsIn K mainGlobals "enumerate" = some none)
    (b_isinstance : PySem.W.nsIn K mainGlobals "isinstance" = some none)
    (b_str : PySem.W.nsIn K mainGlobals "str" = some none)
    (b_set : PySem.W.nsIn K mainGlobals "set" = some none)
    (b_all : PySem.W.nsIn K mainGlobals "all" = some none)
    (b_repr : PySem.W.nsIn K mainGlobals "repr" = some none)
    (b_sorted : PySem.W.nsIn K mainGlobals "sorted" = some none)
    (b_any : PySem.W.nsIn K mainGlobals "any" = some none)
    (b_ValueError : PySem.W.nsIn K mainGlobals "ValueError" = some none)
    (tab : PySem.W.tabIn K "law" = some (cC, cP))
    (hCd : PySem.W.codeHdIn K cC cP = true)
    (nP : K.lookup cP = none)
    (hP : h.get? cP = some { cls := .none, data := .fields #[] })
    : ∃ (fd : FuncData) (cs : List (Addr × Addr)) (sp : Sp), (∀ p ∈ cs, h.get? p.2 = some { cls := .none, data := .fields #[] }) ∧ (∀ p ∈ cs, K.lookup p.2 = none) ∧ (∀ p ∈ cs, PySem.W.CodeHd h p.1 p.2) ∧ (∀ (s : Shared) (u : Value), BindsTo s fd ⟨[u], []⟩ [("_law_script", u)]) ∧
        (∀ (H : Hp) (a : Addr) (ns : List Int), ns.length ≤ 63 → (∀ p ∈ cs, H p.2 = some (.tbl #[])) → SqL K H a (ns.map V.int) → sp [.ref a] H (fun v _ => v = .bl true) fun _ _ _ => False) ∧
        ∀ base : Heap, K.In base → base.Ns mainGlobals mg → (∀ p ∈ cs, TabB base mg p.1 p.2) → FnG l.prog w K mg base 9 fa fd ["_law_script"] sp := by
  have e := hfa.symm.trans (PySem.W.mg_of X G aLW)
  cases e
  have T : Bi mg := ⟨PySem.W.mg_none_of X G b_len, PySem.W.mg_none_of X G b_int, PySem.W.mg_none_of X G b_abs, PySem.W.mg_none_of X G b_range, PySem.W.mg_none_of X G b_list, PySem.W.mg_none_of X G b_tuple, PySem.W.mg_none_of X G b_enumerate, PySem.W.mg_none_of X G b_isinstance, PySem.W.mg_none_of X G b_str, PySem.W.mg_none_of X G b_set, PySem.W.mg_none_of X G b_all, PySem.W.mg_none_of X G b_repr⟩
  have GB : Gb K mg aR t1 t2 := ⟨PySem.W.mg_of X G zL, PySem.W.mg_of X G zM, PySem.W.mg_of X G zR, fun H => .inr ⟨_, itsR, nR2, lR, rfl, rfl, szR, chk_vals vR⟩⟩
  have Y : Txt K mg C := ⟨⟨pg, hd, po, sa⟩, nR, nN, nL, PySem.W.mg_of X G aC⟩
  have FIW := fun_mk (st := sIsW) lIW cIW kIW
  have FAW := fun_mk (st := sAreW) lAW cAW kAW
  have FAD := fun_mk (st := sAreD) lAD cAD kAD
  have FFA := fun_mk (st := sFault) lFA cFA kFA
  have FLI := fun_mk (st := sLine) lLI cLI kLI
  have FPN := fun_mk (st := sPen) lPN cPN kPN
  have FD := fun_mk (st := sDraw) lD cD kD
  have FPK := fun_mk (st := sPick) lPK cPK kPK
  have FBA := fun_mk (st := sBarred) lBA cBA kBA
  have FWO := fun_mk (st := sWords) lWO cWO kWO
  have FBE := fun_mk (st := sBegun) lBE cBE kBE
  have FMI := fun_mk (st := sMixed) lMI cMI kMI
  have FRO := fun_mk (st := sRow) lRO cRO kRO
  have FRS := fun_mk (st := sRows) lRS cRS kRS
  have FHE := fun_mk (st := sHeard) lHE cHE kHE
  have FUP := fun_mk (st := sUppers) lUP cUP kUP
  have FFR := fun_mk (st := sFresh) lFR cFR kFR
  have FLR := fun_mk (st := sLR) lLR cLR kLR
  have FTW := fun_mk (st := sTW) lTW cTW kTW
  have FLW := fun_mk (st := sLaw) lLW cLW kLW
  have FIN := fun_mk (st := sInit) lIN cIN kIN
  have FMA := fun_mk (st := sMade) lMA cMA kMA
  have FWI := fun_mk (st := sWithin) lWI cWI kWI
  have FKD := fun_mk (st := sKind) lKD cKD kKD
  have FKI := fun_mk (st := sKinds) lKI cKI kKI
  have FIA := fun_mk (st := sIA) lIA cIA kIA
  have FME := fun_mk (st := sMeets) lME cME kME
  have FKO := fun_mk (st := sKO) lKO cKO kKO
  have FCO := fun_mk (st := sCo) lCO cCO kCO
  have FEQ := fun_mk (st := sEq) lEQ cEQ kEQ
  have FWR := fun_mk (st := sWR) lWR cWR kWR
  have FTI := fun_mk (st := sTMI) lTI cTI kTI
  have FNI := fun_mk (st := sNCI) lNI cNI kNI
  have DIW : Df K mg "is_word" sIsW fIW _ (["x"] : List Str) := ⟨FIW, PySem.W.mg_of X G aIW, FIW.binds (ps := ["x"]) fun _ _ _ _ _ _ us hl => match us, hl with | [_], _ => rfl⟩
  have DAW : Df K mg "are_words" sAreW fAW _ (["xs"] : List Str) := ⟨FAW, PySem.W.mg_of X G aAW, FAW.binds (ps := ["xs"]) fun _ _ _ _ _ _ us hl => match us, hl with | [_], _ => rfl⟩
  have DAD : Df K mg "are_different" sAreD fAD _ (["words"] : List Str) := ⟨FAD, PySem.W.mg_of X G aAD, FAD.binds (ps := ["words"]) fun _ _ _ _ _ _ us hl => match us, hl with | [_], _ => rfl⟩
  have DFA : Df K mg "_fault" sFault fFA _ (["row", "k", "lines"] : List Str) := ⟨FFA, PySem.W.mg_of X G aFA, FFA.binds (ps := ["row", "k", "lines"]) fun _ _ _ _ _ _ us hl => match us, hl with | [_, _, _], _ => rfl⟩
  have DLI : Df K mg "_line" sLine fLI _ (["row", "lines"] : List Str) := ⟨FLI, PySem.W.mg_of X G aLI, FLI.binds (ps := ["row", "lines"]) fun _ _ _ _ _ _ us hl => match us, hl with | [_, _], _ => rfl⟩
  have DPN : Df K mg "_law_pen" sPen fPN _ (["_law_script"] : List Str) := ⟨FPN, PySem.W.mg_of X G aPN, FPN.binds (ps := ["_law_script"]) fun _ _ _ _ _ _ us hl => match us, hl with | [_], _ => rfl⟩
  have DD : Df K mg "_law_draw" sDraw fD _ (["_law_pen_here", "_law_many"] : List Str) := ⟨FD, PySem.W.mg_of X G aD, FD.binds (ps := ["_law_pen_here", "_law_many"]) fun _ _ _ _ _ _ us hl => match us, hl with | [_, _], _ => rfl⟩
  have DPK : Df K mg "_law_pick" sPick fPK _ (["_law_pen_here", "_law_some"] : List Str) := ⟨FPK, PySem.W.mg_of X G aPK, FPK.binds (ps := ["_law_pen_here", "_law_some"]) fun _ _ _ _ _ _ us hl => match us, hl with | [_, _], _ => rfl⟩
  have DBA : Df K mg "_law_barred" sBarred fBA _ ([] : List Str) := ⟨FBA, PySem.W.mg_of X G aBA, FBA.binds (ps := []) fun _ _ _ _ _ _ us hl => match us, hl with | [], _ => rfl⟩
  have DWO : Df K mg "_law_words" sWords fWO _ (["_law_pen_here", "_law_many"] : List Str) := ⟨FWO, PySem.W.mg_of X G aWO, FWO.binds (ps := ["_law_pen_here", "_law_many"]) fun _ _ _ _ _ _ us hl => match us, hl with | [_, _], _ => rfl⟩
  have DBE : Df K mg "_law_begun" sBegun fBE _ (["_law_pen_here", "_law_many"] : List Str) := ⟨FBE, PySem.W.mg_of X G aBE, FBE.binds (ps := ["_law_pen_here", "_law_many"]) fun _ _ _ _ _ _ us hl => match us, hl with | [_, _], _ => rfl⟩
  have DMI : Df K mg "_law_mixed" sMixed fMI _ (["_law_pen_here", "_law_some"] : List Str) := ⟨FMI, PySem.W.mg_of X G aMI, FMI.binds (ps := ["_law_pen_here", "_law_some"]) fun _ _ _ _ _ _ us hl => match us, hl with | [_, _], _ => rfl⟩
  have DRO : Df K mg "_law_row" sRow fRO _ (["_law_pen_here", "_law_word", "_law_known"] : List Str) := ⟨FRO, PySem.W.mg_of X G aRO, FRO.binds (ps := ["_law_pen_here", "_law_word", "_law_known"]) fun _ _ _ _ _ _ us hl => match us, hl with | [_, _, _], _ => rfl⟩
  have DRS : Df K mg "_law_rows" sRows fRS _ (["_law_pen_here", "_law_words_here"] : List Str) := ⟨FRS, PySem.W.mg_of X G aRS, FRS.binds (ps := ["_law_pen_here", "_law_words_here"]) fun _ _ _ _ _ _ us hl => match us, hl with | [_, _], _ => rfl⟩
  have DHE : Df K mg "_law_heard" sHeard fHE _ (["_law_ask"] : List Str) := ⟨FHE, PySem.W.mg_of X G aHE, FHE.binds (ps := ["_law_ask"]) fun _ _ _ _ _ _ us hl => match us, hl with | [_], _ => rfl⟩
  have DUP : Df K mg "_law_uppers" sUppers fUP _ (["_law_rows_here"] : List Str) := ⟨FUP, PySem.W.mg_of X G aUP, FUP.binds (ps := ["_law_rows_here"]) fun _ _ _ _ _ _ us hl => match us, hl with | [_], _ => rfl⟩
  have DFR : Df K mg "_law_fresh" sFresh fFR _ (["_law_names"] : List Str) := ⟨FFR, PySem.W.mg_of X G aFR, FFR.binds (ps := ["_law_names"]) fun _ _ _ _ _ _ us hl => match us, hl with | [_], _ => rfl⟩
  have DLR : Df K mg "_law_later_right" sLR fLR _ (["_law_pen_here", "_law_built", "_law_uppers_here", "_law_sort_so", "_law_sorts"] : List Str) := ⟨FLR, PySem.W.mg_of X G aLR, FLR.binds (ps := ["_law_pen_here", "_law_built", "_law_uppers_here", "_law_sort_so", "_law_sorts"]) fun _ _ _ _ _ _ us hl => match us, hl with | [_, _, _, _, _], _ => rfl⟩
  have DTW : Df K mg "_law_twice_right" sTW fTW _ (["_law_pen_here", "_law_built", "_law_names", "_law_fresh_here"] : List Str) := ⟨FTW, PySem.W.mg_of X G aTW, FTW.binds (ps := ["_law_pen_here", "_law_built", "_law_names", "_law_fresh_here"]) fun _ _ _ _ _ _ us hl => match us, hl with | [_, _, _, _], _ => rfl⟩
  have BMA := FMA.binds (ps := ["cls", "rows"]) fun _ _ _ _ _ _ us hl => match us, hl with | [_, _], _ => rfl
  have BWI := FWI.binds (ps := ["self", "one", "other"]) fun _ _ _ _ _ _ us hl => match us, hl with | [_, _, _], _ => rfl
  have BKI := FKI.binds (ps := ["self"]) fun _ _ _ _ _ _ us hl => match us, hl with | [_], _ => rfl
  have BIA := FIA.binds (ps := ["self", "name", "part"]) fun _ _ _ _ _ _ us hl => match us, hl with | [_, _, _], _ => rfl
  have BME := FME.binds (ps := ["self", "kind", "names"]) fun _ _ _ _ _ _ us hl => match us, hl with | [_, _, _], _ => rfl
  have BKO := FKO.binds (ps := ["self", "name", "among"]) fun _ _ _ _ _ _ us hl => match us, hl with | [_, _, _], _ => rfl
  have BCO := FCO.binds (ps := ["self", "x"]) fun _ _ _ _ _ _ us hl => match us, hl with | [_, _], _ => rfl
  have BEQ := FEQ.binds (ps := ["self", "other"]) fun _ _ _ _ _ _ us hl => match us, hl with | [_, _], _ => rfl
  have BTI := FTI.binds (ps := ["self", "what", "most"]) fun _ _ _ _ _ _ us hl => match us, hl with | [_, _, _], _ => rfl
  have BNI := FNI.binds (ps := ["self", "reason", "place"]) fun _ _ _ _ _ _ us hl => match us, hl with | [_, _, _], _ => rfl
  let cl : Str → Addr := fun x => (([("LeaveError", cE0), ("NoClass", cE1), ("NoFunction", cE2), ("NoProgram", cE3), ("NoName", cE4), ("NoCase", cE5), ("TooMany", cE6), ("NoText", cE7), ("NoAct", cE8), ("NoRecord", cE9), ("Barred", cE10), ("Unlike", cE11), ("NoRow", cE12)] : List (Str × Addr)).lookup x).getD 0
  have hcl : ∀ x ∈ errs, mg x = some (.ref (cl x)) := fun x hx => by
    simp only [errs, List.mem_cons, List.not_mem_nil, or_false] at hx
    rcases hx with rfl | rfl | rfl | rfl | rfl | rfl | rfl | rfl | rfl | rfl | rfl | rfl | rfl
    · exact PySem.W.mg_of X G e_LeaveError
    · exact PySem.W.mg_of X G e_NoClass
    · exact PySem.W.mg_of X G e_NoFunction
    · exact PySem.W.mg_of X G e_NoProgram
    · exact PySem.W.mg_of X G e_NoName
    · exact PySem.W.mg_of X G e_NoCase
    · exact PySem.W.mg_of X G e_TooMany
    · exact PySem.W.mg_of X G e_NoText
    · exact PySem.W.mg_of X G e_NoAct
    · exact PySem.W.mg_of X G e_NoRecord
    · exact PySem.W.mg_of X G e_Barred
    · exact PySem.W.mg_of X G e_Unlike
    · exact PySem.W.mg_of X G e_NoRow
  have hC : OfClass K cl cE1 := ⟨PySem.W.exm_ref y_be y_hd y_ty y_su, ⟨z_ga, z_gg, z_be, z_hd, z_cl, x_gs, x_tk, z_ob⟩, ⟨z_ga, z_gg, z_be, z_hd⟩, z_re, z_pl,
    kit_same, kit_ref n2 ic2 ty2 su2, kit_ref n3 ic3 ty3 su3, kit_ref n4 ic4 ty4 su4, kit_ref n5 ic5 ty5 su5, kit_ref n6 ic6 ty6 su6,
    any_no (kit_ref n7 ic7 ty7 su7) (any_no (kit_ref n8 ic8 ty8 su8) (any_no (kit_ref n9 ic9 ty9 su9) (any_no (kit_ref n10 ic10 ty10 su10) (any_no (kit_ref n11 ic11 ty11 su11) (any_no (kit_ref n12 ic12 ty12 su12) rfl))))), kit_ve z_ve⟩
  have TMx : TM K mg cE6 fTI := ⟨⟨⟨_, _, _, _, _, _, _, _, _, _, _, _, _, _, _, oK_x, oR_x⟩, x_sa, x_be, x_ty, x_kp⟩, x_wh, x_mo, aTI, tTI, PySem.W.mg_of X G e_TooMany⟩
  have NCx : NC K mg cE1 fNI := ⟨⟨⟨_, _, _, _, _, _, _, _, _, _, _, _, _, _, _, oK_z, oR_z⟩, z_sa, z_be, z_ty, z_kp⟩, z_re, z_pl, aNI, tNI, PySem.W.mg_of X G e_NoClass⟩
  have tSo := PySem.W.mg_none_of X G b_sorted
  have tAny := PySem.W.mg_none_of X G b_any
  have tVE := PySem.W.mg_none_of X G b_ValueError
  have M : Mk K C fIN := ⟨mk, aIN, iIN, kc⟩
  have O : Own K C := ⟨ha, x_gs, x_tk, hmo⟩
  have mWI : Meth K C "within" fWI := ⟨aWI, iWI, kWI⟩
  have mKD : Meth K C "kind" fKD := ⟨aKD, iKD, kKD⟩
  have mKDb : BMeth K C "kind" fKD := ⟨⟨aKD, iKD, kKD⟩, gKI, tKI, by decide +kernel, nKI⟩
  have mKI : Meth K C "kinds" fKI := ⟨aKI, iKI, kKI⟩
  have mIA : Meth K C "_is_apart" fIA := ⟨aIA, iIA, kIA⟩
  have mME : Meth K C "meets" fME := ⟨aME, iME, kME⟩
  have mKO : Meth K C "kind_of" fKO := ⟨aKO, iKO, kKO⟩
  have mWR : Meth K C "with_rows" fWR := ⟨aWR, iWR, kWR⟩
  refine ⟨_, [(cC, cP)], spLaw K cP, fun p hp => ?_, fun p hp => ?_, fun p hp => ?_, fun z u => .of_eq (fd := (PySem.W.fnOf "law" "law" (defArgs sLaw) (defBody sLaw) (defScope sLaw) .none kVLW dcLW pmLW anLW (.ref cC) ctLW)) rfl, fun H a ns hl hT hS => ⟨a, ns, rfl, hS, hl, hT _ (List.mem_singleton.mpr rfl), fun _ => rfl⟩, fun base _ _ hTB => ?_⟩
  · rw [List.mem_singleton.mp hp]; exact hP
  · rw [List.mem_singleton.mp hp]; exact nP
  · rw [List.mem_singleton.mp hp]; exact PySem.W.codeHd_of_K X hCd
  have GD := ok_draw (P := l.prog) (w := w) (base := base) FD T
  have GP := ok_pick (P := l.prog) (w := w) (base := base) FPK T DD
  have GBa := ok_barred (P := l.prog) (w := w) (mg := mg) (base := base) FBA
  have GWo := ok_words (P := l.prog) (w := w) (base := base) FWO T DD DPK DBA
  have GBe := ok_begun FBE T DD DWO GWo
  have GMi := ok_mixed (P := l.prog) (w := w) (base := base) FMI T DD
  have GRo := ok_row FRO T DPK GP DMI GMi
  have GRs := ok_rows FRS DRO GRo
  have GUp := ok_uppers (P := l.prog) (w := w) (mg := mg) (base := base) FUP
  have GIw := ok_isw (P := l.prog) (w := w) (base := base) FIW T GB
  have GAw := ok_arew FAW T DIW GIw
  have GAd := ok_ared (P := l.prog) (w := w) (base := base) FAD T
  have GFa := ok_fault FFA T GB DAW GAw DAD GAd
  have GIwG := ok_iswG (P := l.prog) (w := w) (base := base) FIW T GB
  have GAwG := ok_arewG FAW T DIW GIwG
  have GFaX := ok_faultX FFA T GB DAW GAwG DAD GAd
  have GLi := ok_line (P := l.prog) (w := w) (mg := mg) (base := base) FLI
  have GIn : FnR l.prog w K mg base CX0 4 fIN (spInitR C) := ok_init FIN Y T DFA GFa DLI GLi
  have GNi := ok_nci (P := l.prog) (w := w) (base := base) FNI NCx
  have GInX : FnR l.prog w K mg base (L2.CX l.prog w) 4 fIN (spInitXR K C cE1) := ok_initX FIN Y T DFA GFa GFaX DLI GLi NCx GNi BNI
  have GMa := ok_made FMA M GIn
  have GWi := ok_within (P := l.prog) (w := w) (base := base) FWI Y
  have GKd : FnR l.prog w K mg base CX0 3 fKD (spKindR C) := ok_kind FKD Y T tAny tSo mWI GWi BWI
  have GIa := ok_ia FIA Y T tAny mWI GWi BWI
  have GTi := ok_tmi (P := l.prog) (w := w) (base := base) FTI TMx
  have GKi := ok_kinds FKI Y T tSo (PySem.W.mg_of X G z6) mIA GIa BIA TMx GTi BTI
  have GMe := ok_meets (L := true) FME Y T tAny mWI GWi BWI
  have GKo := ok_ko FKO Y mWI GWi BWI mKDb GKd
  have GCo := ok_co (P := l.prog) (w := w) (base := base) FCO Y T
  have GEq := ok_eq (P := l.prog) (w := w) (base := base) FEQ Y T O
  have GWr := ok_wr FWR Y M GIn
  have GWx := ok_wrX FWR Y M GInX
  have GFr := ok_fresh (P := l.prog) (w := w) (mg := mg) (base := base) FFR
  have cR : ClX.CRead K C (.type "type") := ⟨rd, ga⟩
  have cM : ClX.CMet K C (.type "type") "made" pM fMA := ⟨cm, ⟨rest, rc⟩, fi⟩
  have GTw := ok_tw FTW T Y O DD GD GEq BEQ aEQ iEQ nE hmo GCo BCO aCO iCO mWR GWr mWI GWi BWI mKO GKo BKO
  have GLr := ok_lr FLR T Y DD GD DMI GMi DFR GFr cR cM GMa BMA mKO GKo BKO
  have GPn := ok_pen (P := l.prog) (w := w) (base := base) FPN T
  exact ok_law FLW rfl (hTB _ (List.mem_singleton.mpr rfl)) T tVE hcl hC Y DPN GPn DD GD DPK GP DBE GBe DRS GRs DUP GUp DHE DFR GFr DLR GLr DTW GTw mKI GKi BKI mME GMe BME mWR GWx cR cM GMa BMA
end K2
end
section
set_option Elab.async false
set_option maxRecDepth 100000
open PySem PySem.W PyProof.Rows
set_option maxRecDepth 100000 in
set_option maxHeartbeats 0 in
theorem PySem.Challenge.cw_whatleaves_k07_whole_each_kind_is_made_holds : PySem.Challenge.rw_whatleaves_k07_whole_each_kind_is_made.Holds := by
  w_on; o_law; k_head; (case hw => w_witness2)
  k_fill
  refine K2.walk_ofTG (l := PySem.Challenge.rw_whatleaves_k07_whole_each_kind_is_made) (n := 63) (k := 9) (x := "_law_script") rfl (by decide) rfl ⟨rfl, by decide, by decide⟩ (fun w h Y => PySem.W.km_in_of Y) ?F
  case F =>
    intro w mg fa h YY KX G hmg
    refine' K2.all_mk KX G hmg ?aIW ?aAW ?aAD ?aFA ?aLI ?aPN ?aD ?aPK ?aBA ?aWO ?aBE ?aMI ?aRO ?aRS ?aHE ?aUP ?aFR ?aLR ?aTW ?aLW ?lIW ?cIW ?kIW ?lAW ?cAW ?kAW ?lAD ?cAD ?kAD ?lFA ?cFA ?kFA ?lLI ?cLI ?kLI ?lPN ?cPN ?kPN ?lD ?cD ?kD ?lPK ?cPK ?kPK ?lBA ?cBA ?kBA ?lWO ?cWO ?kWO ?lBE ?cBE ?kBE ?lMI ?cMI ?kMI ?lRO ?cRO ?kRO ?lRS ?cRS ?kRS ?lHE ?cHE ?kHE ?lUP ?cUP ?kUP ?lFR ?cFR ?kFR ?lLR ?cLR ?kLR ?lTW ?cTW ?kTW ?lLW ?cLW ?kLW ?lIN ?cIN ?kIN ?lMA ?cMA ?kMA ?lWI ?cWI ?kWI ?lKD ?cKD ?kKD ?lKI ?cKI ?kKI ?lIA ?cIA ?kIA ?lME ?cME ?kME ?lKO ?cKO ?kKO ?lCO ?cCO ?kCO ?lEQ ?cEQ ?kEQ ?lWR ?cWR ?kWR ?lTI ?cTI ?kTI ?lNI ?cNI ?kNI ?aC ?aIN ?iIN ?aWI ?iWI ?aKD ?iKD ?aKI ?iKI ?aIA ?iIA ?aME ?iME ?aKO ?iKO ?aCO ?iCO ?aEQ ?iEQ ?aWR ?iWR ?nE ?ha ?hmo ?e_LeaveError ?e_NoClass ?e_NoFunction ?e_NoProgram ?e_NoName ?e_NoCase ?e_TooMany ?e_NoText ?e_NoAct ?e_NoRecord ?e_Barred ?e_Unlike ?e_NoRow ?aTI ?tTI ?aNI ?tNI ?oK_x ?oR_x ?x_sa ?x_be ?x_ty ?x_kp ?oK_z ?oR_z ?z_sa ?z_be ?z_ty ?z_kp ?x_wh ?x_mo ?z_re ?z_pl ?z_ga ?z_gg ?z_hd ?z_cl ?x_gs ?x_tk ?z_ob ?y_be ?y_hd ?y_ty ?y_su ?z_ve ?n2 ?ic2 ?ty2 ?su2 ?n3 ?ic3 ?ty3 ?su3 ?n4 ?ic4 ?ty4 ?su4 ?n5 ?ic5 ?ty5 ?su5 ?n6 ?ic6 ?ty6 ?su6 ?n7 ?ic7 ?ty7 ?su7 ?n8 ?ic8 ?ty8 ?su8 ?n9 ?ic9 ?ty9 ?su9 ?n10 ?ic10 ?ty10 ?su10 ?n11 ?ic11 ?ty11 ?su11 ?n12 ?ic12 ?ty12 ?su12 ?pg ?hd ?po ?sa ?mk ?kc ?nR ?nN ?nL ?rd ?ga ?cm ?rc ?fi ?gKI ?tKI ?nKI ?zL ?zM ?z6 ?zR ?lR ?vR ?szR ?b_len ?b_int ?b_abs ?b_range ?b_list ?b_tuple ?b_enumerate ?b_isinstance ?b_str ?b_set ?b_all ?b_repr ?b_sorted ?b_any ?b_ValueError ?tab ?hCd ?nP ?hP
    (case aIW => k_is)
    (case aAW => k_is)
    (case aAD => k_is)
    (case aFA => k_is)
    (case aLI => k_is)
    (case aPN => k_is)
    (case aD => k_is)
    (case aPK => k_is)
    (case aBA => k_is)
    (case aWO => k_is)
    (case aBE => k_is)
    (case aMI => k_is)
    (case aRO => k_is)
    (case aRS => k_is)
    (case aHE => k_is)
    (case aUP => k_is)
    (case aFR => k_is)
    (case aLR => k_is)
    (case aTW => k_is)
    (case aLW => k_is)
    (case aC => k_is)
    (case e_TooMany => k_is)
    (case e_NoClass => k_is)
    (case aTI => k_is)
    (case aNI => k_is)
    (case aIN => k_is)
    (case aWI => k_is)
    (case aKD => k_is)
    (case aKI => k_is)
    (case aIA => k_is)
    (case aME => k_is)
    (case aKO => k_is)
    (case aCO => k_is)
    (case aEQ => k_is)
    (case aWR => k_is)
    (case cm => k_is)
    (case rc => k_is)
    (case e_LeaveError => k_is)
    (case e_NoFunction => k_is)
    (case e_NoProgram => k_is)
    (case e_NoName => k_is)
    (case e_NoCase => k_is)
    (case e_NoText => k_is)
    (case e_NoAct => k_is)
    (case e_NoRecord => k_is)
    (case e_Barred => k_is)
    (case e_Unlike => k_is)
    (case e_NoRow => k_is)
    (case lIW => k_is)
    (case cIW => k_is)
    (case kIW => k_is)
    (case lAW => k_is)
    (case cAW => k_is)
    (case kAW => k_is)
    (case lAD => k_is)
    (case cAD => k_is)
    (case kAD => k_is)
    (case lFA => k_is)
    (case cFA => k_is)
    (case kFA => k_is)
    (case lLI => k_is)
    (case cLI => k_is)
    (case kLI => k_is)
    (case lPN => k_is)
    (case cPN => k_is)
    (case kPN => k_is)
    (case lD => k_is)
    (case cD => k_is)
    (case kD => k_is)
    (case lPK => k_is)
    (case cPK => k_is)
    (case kPK => k_is)
    (case lBA => k_is)
    (case cBA => k_is)
    (case kBA => k_is)
    (case lWO => k_is)
    (case cWO => k_is)
    (case kWO => k_is)
    (case lBE => k_is)
    (case cBE => k_is)
    (case kBE => k_is)
    (case lMI => k_is)
    (case cMI => k_is)
    (case kMI => k_is)
    (case lRO => k_is)
    (case cRO => k_is)
    (case kRO => k_is)
    (case lRS => k_is)
    (case cRS => k_is)
    (case kRS => k_is)
    (case lHE => k_is)
    (case cHE => k_is)
    (case kHE => k_is)
    (case lUP => k_is)
    (case cUP => k_is)
    (case kUP => k_is)
    (case lFR => k_is)
    (case cFR => k_is)
    (case kFR => k_is)
    (case lLR => k_is)
    (case cLR => k_is)
    (case kLR => k_is)
    (case lTW => k_is)
    (case cTW => k_is)
    (case kTW => k_is)
    (case lLW => k_is)
    (case cLW => k_is)
    (case kLW => k_is)
    (case lIN => k_is)
    (case cIN => k_is)
    (case kIN => k_is)
    (case lMA => k_is)
    (case cMA => k_is)
    (case kMA => k_is)
    (case lWI => k_is)
    (case cWI => k_is)
    (case kWI => k_is)
    (case lKD => k_is)
    (case cKD => k_is)
    (case kKD => k_is)
    (case lKI => k_is)
    (case cKI => k_is)
    (case kKI => k_is)
    (case lIA => k_is)
    (case cIA => k_is)
    (case kIA => k_is)
    (case lME => k_is)
    (case cME => k_is)
    (case kME => k_is)
    (case lKO => k_is)
    (case cKO => k_is)
    (case kKO => k_is)
    (case lCO => k_is)
    (case cCO => k_is)
    (case kCO => k_is)
    (case lEQ => k_is)
    (case cEQ => k_is)
    (case kEQ => k_is)
    (case lWR => k_is)
    (case cWR => k_is)
    (case kWR => k_is)
    (case lTI => k_is)
    (case cTI => k_is)
    (case kTI => k_is)
    (case lNI => k_is)
    (case cNI => k_is)
    (case kNI => k_is)
    (case iIN => k_is)
    (case iWI => k_is)
    (case iKD => k_is)
    (case iKI => k_is)
    (case iIA => k_is)
    (case iME => k_is)
    (case iKO => k_is)
    (case iCO => k_is)
    (case iEQ => k_is)
    (case iWR => k_is)
    (case nE => k_is)
    (case ha => k_is)
    (case hmo => k_is)
    (case tTI => k_is)
    (case tNI => k_is)
    (case oK_x => k_is)
    (case oR_x => decide +kernel)
    (case x_sa => k_is)
    (case x_be => k_is)
    (case x_ty => k_is)
    (case x_kp => k_is)
    (case oK_z => k_is)
    (case oR_z => decide +kernel)
    (case z_sa => k_is)
    (case z_be => k_is)
    (case z_ty => k_is)
    (case z_kp => k_is)
    (case x_wh => k_is)
    (case x_mo => k_is)
    (case z_re => k_is)
    (case z_pl => k_is)
    (case z_ga => k_is)
    (case z_gg => k_is)
    (case z_hd => k_is)
    (case z_cl => k_is)
    (case x_gs => k_is)
    (case x_tk => k_is)
    (case z_ob => k_is)
    (case y_be => k_is)
    (case y_hd => k_is)
    (case y_ty => k_is)
    (case y_su => k_is)
    (case z_ve => k_is)
    (case n2 => decide)
    (case ic2 => k_is)
    (case ty2 => k_is)
    (case su2 => k_is)
    (case n3 => decide)
    (case ic3 => k_is)
    (case ty3 => k_is)
    (case su3 => k_is)
    (case n4 => decide)
    (case ic4 => k_is)
    (case ty4 => k_is)
    (case su4 => k_is)
    (case n5 => decide)
    (case ic5 => k_is)
    (case ty5 => k_is)
    (case su5 => k_is)
    (case n6 => decide)
    (case ic6 => k_is)
    (case ty6 => k_is)
    (case su6 => k_is)
    (case n7 => decide)
    (case ic7 => k_is)
    (case ty7 => k_is)
    (case su7 => k_is)
    (case n8 => decide)
    (case ic8 => k_is)
    (case ty8 => k_is)
    (case su8 => k_is)
    (case n9 => decide)
    (case ic9 => k_is)
    (case ty9 => k_is)
    (case su9 => k_is)
    (case n10 => decide)
    (case ic10 => k_is)
    (case ty10 => k_is)
    (case su10 => k_is)
    (case n11 => decide)
    (case ic11 => k_is)
    (case ty11 => k_is)
    (case su11 => k_is)
    (case n12 => decide)
    (case ic12 => k_is)
    (case ty12 => k_is)
    (case su12 => k_is)
    (case pg => k_is)
    (case hd => k_is)
    (case po => k_is)
    (case sa => k_is)
    (case mk => k_is)
    (case kc => k_is)
    (case nR => k_is)
    (case nN => k_is)
    (case nL => k_is)
    (case rd => k_is)
    (case ga => k_is)
    (case fi => k_is)
    (case gKI => k_is)
    (case tKI => k_is)
    (case nKI => k_is)
    (case zL => k_is)
    (case zM => k_is)
    (case z6 => k_is)
    (case zR => k_is)
    (case lR => k_is)
    (case vR => decide +kernel)
    (case szR => decide +kernel)
    (case b_len => k_is)
    (case b_int => k_is)
    (case b_abs => k_is)
    (case b_range => k_is)
    (case b_list => k_is)
    (case b_tuple => k_is)
    (case b_enumerate => k_is)
    (case b_isinstance => k_is)
    (case b_str => k_is)
    (case b_set => k_is)
    (case b_all => k_is)
    (case b_repr => k_is)
    (case b_sorted => k_is)
    (case b_any => k_is)
    (case b_ValueError => k_is)
    (case tab => with_unfolding_all rfl)
    (case hCd => kernel_rfl)
    (case nP => kernel_rfl)
    (case hP => exact PySem.W.km_tabs_of YY _ (by k_mem))
end
