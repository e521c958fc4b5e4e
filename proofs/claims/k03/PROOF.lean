import PyProof.Rows.All
import Wide.All
import OpenK.AllK
import Wide.FinOn
import HandS.ForMost
import HandS.Style
import HandS.TupAny
import HandS.Strs
import HandS.IsInst
import HandS.StrMore
import HandS.Walk
import KE.GoesEnum
import KE.GoesMore
import HandS.Star
import HandS.Conv
import HandS.ClsMeth
import HandS.MakeKw
import PyProof.ReprLen
import HandS.Set
import HandS.SetTxt0
import PyProof.Rows.SortShellAny
import HandS.OwnEq
import PyProof.InstNe
import HandS.More
import HandS.TupSets
import KE.KSortTupG
import PyProof.TupleOfSeq
import HandS.ExcIs
import HandS.ExcField
import HandS.ExcValue
import HandS.ExcInit
import KE.KIsAll
import HandS.Lambda
import HandS.WordsExc
import PyProof.NeKinds
import HandS.Wide
import HandS.EndTab
import KE.KNestM
import PySem.Challenge.RW_whatleaves_k03_rows_refused
section
set_option autoImplicit true
namespace K2
open PySem

abbrev Row := Str × List Str
def barredL : List String := ["pass", "raise", "from", "none", "again", "return", "returns", "break", "call", "handling", "else", "either", "or", "loop", "try", "except", "as", "finally", "with", "quiet", "class", "def", "error", "vacant"]
def barred : List Str := barredL.map Str.ofString
def resd : List Str := barred.take 22
def sErr : Str := Str.ofString "error"
def sVac : Str := Str.ofString "vacant"
def codes (x : Str) : List Nat := x.cps.toList
def txt (l : List Nat) : Str := ⟨l.toArray⟩
theorem codes_txt (l : List Nat) : codes (txt l) = l := by simp [codes, txt]
theorem txt_codes (x : Str) : txt (codes x) = x := by cases x; simp [codes, txt]
theorem codes_inj {x y : Str} (h : codes x = codes y) : x = y := by rw [← txt_codes x, ← txt_codes y, h]

/-- a text of small letters -/
def Low (l : List Nat) : Prop := ∀ c ∈ l, 97 ≤ c ∧ c ≤ 122
/-- a word of the document -/
structure VW (x : Str) : Prop where
  low : Low (codes x)
  ne : codes x ≠ []
  le : (codes x).length ≤ 8
  nr : x ∉ resd
theorem vw_err : VW sErr := ⟨by unfold Low; decide +kernel, by decide +kernel, by decide +kernel, by decide +kernel⟩
theorem vw_vac : VW sVac := ⟨by unfold Low; decide +kernel, by decide +kernel, by decide +kernel, by decide +kernel⟩
theorem err_ne_vac : sErr ≠ sVac := by decide +kernel
theorem mem_resd {x : Str} (h : x ∈ resd) : x ∈ barred := List.mem_of_mem_take h
theorem err_barred : sErr ∈ barred := by decide +kernel
theorem vac_barred : sVac ∈ barred := by decide +kernel

/-! ### words -/
def wordAt (base : List Nat) (spot : Nat) (sign : Nat) : List Nat := base.take spot ++ [sign] ++ base.drop spot
def signAt (first hop k : Nat) : Nat := 97 + (first + hop * k) % 26
def finalAt (base : List Nat) (spot first hop k : Nat) : List Nat :=
  let w := wordAt base spot (signAt first hop k)
  w ++ (if 26 ≤ k then [113] else if txt w ∈ barred then [122] else [])
theorem barred_end : ∀ b ∈ barred, ∀ c, (codes b).getLast? = some c → c ≠ 113 ∧ c ≠ 122 := by
  have h : ∀ b ∈ barred, (codes b).getLast? ≠ some 113 ∧ (codes b).getLast? ≠ some 122 := by decide +kernel
  intro b hb c hc
  have := h b hb
  refine ⟨fun e => this.1 (by rw [hc, e]), fun e => this.2 (by rw [hc, e])⟩
theorem low_wordAt (hb : Low base) (h1 : 97 ≤ sign) (h2 : sign ≤ 122) : Low (wordAt base spot sign) := by
  intro c hc
  unfold wordAt at hc
  rcases List.mem_append.mp hc with hc | hc
  · rcases List.mem_append.mp hc with hc | hc
    · exact hb c (List.mem_of_mem_take hc)
    · have : c = sign := by simpa using hc
      omega
  · exact hb c (List.mem_of_mem_drop hc)
theorem len_wordAt (base : List Nat) (spot sign : Nat) : (wordAt base spot sign).length = base.length + 1 := by
  unfold wordAt
  simp only [List.length_append, List.length_take, List.length_drop, List.length_singleton]
  omega
theorem sign_lo (f h k : Nat) : 97 ≤ signAt f h k ∧ signAt f h k ≤ 122 := by
  unfold signAt; omega
theorem sign_ne {f hop i j : Nat} (hh : hop ∈ [1, 3, 5, 7, 9, 11]) (h1 : i < j) (h2 : j < i + 26) : signAt f hop i ≠ signAt f hop j := by
  unfold signAt
  simp only [List.mem_cons, List.not_mem_nil, or_false] at hh
  rcases hh with rfl | rfl | rfl | rfl | rfl | rfl <;> omega
theorem word_ne {base : List Nat} {spot s t : Nat} (h : s ≠ t) : wordAt base spot s ≠ wordAt base spot t := by
  unfold wordAt
  intro e
  rw [List.append_assoc, List.append_assoc] at e
  have := List.append_cancel_left e
  have h2 : s = t := by simpa using (List.cons.inj this).1
  exact h h2
theorem vw_final {base : List Nat} (hb : Low base) (hl : base.length ≤ 6) (spot f hop k : Nat) : VW (txt (finalAt base spot f hop k)) ∧ txt (finalAt base spot f hop k) ∉ barred := by
  have hw := low_wordAt (spot := spot) hb (sign_lo f hop k).1 (sign_lo f hop k).2
  have hlen := len_wordAt base spot (signAt f hop k)
  have nb : txt (finalAt base spot f hop k) ∉ barred := by
    intro hm
    have he := barred_end _ hm
    rw [codes_txt] at he
    by_cases h1 : 26 ≤ k
    · unfold finalAt at he
      simp only [h1, if_true] at he
      exact (he 113 (by simp)).1 rfl
    · by_cases h2 : txt (wordAt base spot (signAt f hop k)) ∈ barred
      · unfold finalAt at he
        simp only [h1, if_false, h2, if_true] at he
        exact (he 122 (by simp)).2 rfl
      · unfold finalAt at hm
        simp only [h1, if_false, h2, if_false, List.append_nil] at hm
  refine ⟨⟨?_, ?_, ?_, fun h => nb (mem_resd h)⟩, nb⟩
  · rw [codes_txt]
    unfold finalAt
    intro c hc
    rcases List.mem_append.mp hc with hc | hc
    · exact hw c hc
    · split at hc
      · have : c = 113 := by simpa using hc
        omega
      · split at hc
        · have : c = 122 := by simpa using hc
          omega
        · cases hc
  · rw [codes_txt]
    intro e
    have : (finalAt base spot f hop k).length = 0 := by rw [e]; rfl
    unfold finalAt at this
    rw [List.length_append, hlen] at this
    omega
  · rw [codes_txt]
    unfold finalAt
    rw [List.length_append, hlen]
    split
    · show base.length + 1 + 1 ≤ 8; omega
    · split
      · show base.length + 1 + 1 ≤ 8; omega
      · show base.length + 1 + 0 ≤ 8; omega
theorem final_ne {base : List Nat} {spot f hop i j : Nat} (hh : hop ∈ [1, 3, 5, 7, 9, 11]) (h1 : i < j) (hj : j < 32) : finalAt base spot f hop i ≠ finalAt base spot f hop j := by
  have li := len_wordAt base spot (signAt f hop i)
  have lj := len_wordAt base spot (signAt f hop j)
  intro e
  have key : ∀ {w1 w2 : List Nat} {a b : Nat}, w1 ++ [a] = w2 ++ [b] → w1 = w2 ∧ a = b := by
    intro w1 w2 a b h
    have := List.append_inj' h rfl
    exact ⟨this.1, by simpa using this.2⟩
  unfold finalAt at e
  by_cases c1 : 26 ≤ i
  · have c2 : 26 ≤ j := by omega
    simp only [c1, c2, if_true] at e
    exact word_ne (sign_ne hh h1 (by omega)) (key e).1
  · by_cases c2 : 26 ≤ j
    · simp only [c1, if_false, c2, if_true] at e
      by_cases c3 : txt (wordAt base spot (signAt f hop i)) ∈ barred
      · simp only [c3, if_true] at e
        exact absurd (key e).2 (by decide)
      · simp only [c3, if_false, List.append_nil] at e
        have := congrArg List.length e
        rw [List.length_append, li, lj] at this
        simp at this
    · have hs : wordAt base spot (signAt f hop i) ≠ wordAt base spot (signAt f hop j) := word_ne (sign_ne hh h1 (by omega))
      simp only [c1, if_false, c2] at e
      by_cases c3 : txt (wordAt base spot (signAt f hop i)) ∈ barred
      · by_cases c4 : txt (wordAt base spot (signAt f hop j)) ∈ barred
        · simp only [c3, c4, if_true] at e
          exact hs (key e).1
        · simp only [c3, c4, if_true, if_false, List.append_nil] at e
          have := congrArg List.length e
          rw [List.length_append, li, lj] at this
          simp at this
      · by_cases c4 : txt (wordAt base spot (signAt f hop j)) ∈ barred
        · simp only [c3, c4, if_true, if_false, List.append_nil] at e
          have := congrArg List.length e
          rw [List.length_append, li, lj] at this
          simp at this
        · simp only [c3, c4, if_false, List.append_nil] at e
          exact hs e
def finals (base : List Nat) (spot f hop n : Nat) : List Str := (List.range n).map fun k => txt (finalAt base spot f hop k)
/-- what words are for the law: so many unlike words, none of them error or vacant -/
structure Words (ws : List Str) : Prop where
  vw : ∀ x ∈ ws, VW x
  nb : ∀ x ∈ ws, x ∉ barred
  nd : ws.Nodup
theorem nodup_of_inj {α : Type} {f : Nat → α} {n : Nat} (h : ∀ i j, i < j → j < n → f i ≠ f j) : ((List.range n).map f).Nodup := by
  unfold List.Nodup
  rw [List.pairwise_map]
  refine List.Pairwise.imp_of_mem ?_ (List.pairwise_lt_range (n := n))
  intro a b _ hb hab
  exact h a b hab (List.mem_range.mp hb)
theorem words_finals {base : List Nat} (hb : Low base) (hl : base.length ≤ 6) {hop : Nat} (hh : hop ∈ [1, 3, 5, 7, 9, 11]) {n : Nat} (hn : n ≤ 32) (spot f : Nat) : Words (finals base spot f hop n) := by
  refine ⟨fun x hx => ?_, fun x hx => ?_, ?_⟩
  · obtain ⟨k, _, rfl⟩ := List.mem_map.mp hx
    exact (vw_final hb hl spot f hop k).1
  · obtain ⟨k, _, rfl⟩ := List.mem_map.mp hx
    exact (vw_final hb hl spot f hop k).2
  · refine nodup_of_inj fun i j h1 h2 e => final_ne (base := base) (spot := spot) (f := f) hh h1 (by omega) ?_
    have := congrArg codes e
    rwa [codes_txt, codes_txt] at this
theorem barred_two : ∀ b ∈ barred, 2 ≤ (codes b).length ∧ (codes b)[0]? ≠ (codes b)[1]? := by decide +kernel
def reps (c n : Nat) : List Str := (List.range n).map fun k => txt (List.replicate (k + 1) c)
theorem words_reps {c : Nat} (h1 : 97 ≤ c) (h2 : c ≤ 122) {n : Nat} (hn : n ≤ 8) : Words (reps c n) := by
  have nb : ∀ k, txt (List.replicate (k + 1) c) ∉ barred := by
    intro k hm
    have := barred_two _ hm
    rw [codes_txt] at this
    rw [List.length_replicate] at this
    apply this.2
    rw [List.getElem?_replicate, List.getElem?_replicate, if_pos (by omega), if_pos (by omega)]
  refine ⟨fun x hx => ?_, fun x hx => ?_, ?_⟩
  · obtain ⟨k, hk, rfl⟩ := List.mem_map.mp hx
    have hk := List.mem_range.mp hk
    refine ⟨?_, ?_, ?_, fun h => nb k (mem_resd h)⟩
    · rw [codes_txt]
      intro d hd
      have := List.eq_of_mem_replicate hd
      omega
    · rw [codes_txt]
      intro e
      have := congrArg List.length e
      rw [List.length_replicate] at this
      simp at this
    · rw [codes_txt, List.length_replicate]
      omega
  · obtain ⟨k, hk, rfl⟩ := List.mem_map.mp hx
    exact nb k
  · refine nodup_of_inj fun i j h1 h2 e => ?_
    have := congrArg (fun x => (codes x).length) e
    simp only [codes_txt, List.length_replicate] at this
    omega
theorem Words.rev {ws : List Str} (h : Words ws) : Words ws.reverse := ⟨fun x hx => h.vw x (List.mem_reverse.mp hx), fun x hx => h.nb x (List.mem_reverse.mp hx), by
  have := h.nd
  unfold List.Nodup at *
  rw [List.pairwise_reverse]
  exact this.imp fun h e => h e.symm⟩
end K2
end
section
set_option autoImplicit true
namespace K2
open PySem

def base0 : List Str := [sErr, sVac]
structure RowOk (known : List Str) (r : Row) : Prop where
  vw : VW r.1
  new : r.1 ∉ known
  ne : r.2 ≠ []
  nd : r.2.Nodup
  sub : ∀ b ∈ r.2, b ∈ known
def knownAt (rs : List Row) (i : Nat) : List Str := base0 ++ (rs.take i).map (·.1)
def Good (rs : List Row) : Prop := ∀ (i : Nat) (r : Row), rs[i]? = some r → RowOk (knownAt rs i) r
theorem good_nil : Good [] := fun i r h => by simp at h
theorem good_snoc {rs : List Row} {r : Row} (g : Good rs) (h : RowOk (base0 ++ rs.map (·.1)) r) : Good (rs ++ [r]) := by
  intro i q hq
  by_cases hi : i < rs.length
  · rw [List.getElem?_append_left hi] at hq
    have := g i q hq
    unfold knownAt at *
    rw [List.take_append_of_le_length (by omega)]
    exact this
  · have hi2 : i = rs.length := by
      have := (List.getElem?_eq_some_iff.mp hq).1
      rw [List.length_append, List.length_singleton] at this
      omega
    subst hi2
    rw [List.getElem?_append_right (Nat.le_refl _), Nat.sub_self] at hq
    simp at hq
    subst hq
    unfold knownAt
    rw [List.take_append_of_le_length (Nat.le_refl _), List.take_length]
    exact h
theorem vw_base0 : ∀ x ∈ base0, VW x := by
  intro x hx
  unfold base0 at hx
  rcases List.mem_cons.mp hx with rfl | hx
  · exact vw_err
  · have : x = sVac := by simpa using hx
    subst this
    exact vw_vac
theorem Good.vw_known {rs : List Row} (g : Good rs) (i : Nat) : ∀ x ∈ knownAt rs i, VW x := by
  intro x hx
  rcases List.mem_append.mp hx with hx | hx
  · exact vw_base0 x hx
  · obtain ⟨r, hr, rfl⟩ := List.mem_map.mp hx
    obtain ⟨j, hj⟩ := List.getElem?_of_mem (List.mem_of_mem_take hr)
    exact (g j r hj).vw
theorem knownAt_len {rs : List Row} {i : Nat} (h : i ≤ rs.length) : (knownAt rs i).length = i + 2 := by
  unfold knownAt base0
  simp [List.length_take]
  omega
theorem knownAt_succ {rs : List Row} {i : Nat} {r : Row} (h : rs[i]? = some r) : knownAt rs (i + 1) = knownAt rs i ++ [r.1] := by
  unfold knownAt
  rw [List.take_add_one, h]
  simp
theorem base0_nd : base0.Nodup := by
  unfold base0
  simp [err_ne_vac]
theorem Good.nodup {rs : List Row} (g : Good rs) : ∀ i, i ≤ rs.length → (knownAt rs i).Nodup
  | 0, _ => by simpa [knownAt] using base0_nd
  | i + 1, h => by
    have hi : rs[i]? = some rs[i] := List.getElem?_eq_getElem (by omega)
    rw [knownAt_succ hi]
    refine List.nodup_append.mpr ⟨g.nodup i (by omega), by simp, ?_⟩
    intro a ha b hb e
    have : b = rs[i].1 := by simpa using hb
    subst this
    subst e
    exact (g i _ hi).new ha
/-- the rows of words, with any bases among those known -/
def namesOf (rs : List Row) : List Str := rs.map (·.1)
structure Sub1 (r q : Row) : Prop where
  nm : q.1 = r.1
  sl : q.2.Sublist r.2
  ne : q.2 ≠ []
theorem good_sub {rs qs : List Row} (g : Good rs) (hl : qs.length = rs.length) (h : ∀ (i : Nat) (r q : Row), rs[i]? = some r → qs[i]? = some q → Sub1 r q) : Good qs := by
  have en : ∀ i, (qs.take i).map (·.1) = (rs.take i).map (·.1) := by
    intro i
    apply List.ext_getElem?
    intro j
    rw [List.getElem?_map, List.getElem?_map, List.getElem?_take, List.getElem?_take]
    split
    · by_cases hj : j < rs.length
      · have h1 : rs[j]? = some rs[j] := List.getElem?_eq_getElem hj
        have h2 : qs[j]? = some qs[j] := List.getElem?_eq_getElem (by omega)
        rw [h1, h2]
        simp [(h j _ _ h1 h2).nm]
      · rw [List.getElem?_eq_none (by omega), List.getElem?_eq_none (by omega)]
    · rfl
  intro i q hq
  have hi : i < rs.length := by
    have := (List.getElem?_eq_some_iff.mp hq).1
    omega
  have h1 : rs[i]? = some rs[i] := List.getElem?_eq_getElem hi
  have k := h i _ _ h1 hq
  have R := g i _ h1
  unfold knownAt at *
  rw [en i]
  refine ⟨by rw [k.nm]; exact R.vw, by rw [k.nm]; exact R.new, k.ne, R.nd.sublist k.sl, fun b hb => R.sub b (k.sl.subset hb)⟩

/-! ### what is within what -/
abbrev Tb := List (Str × List Str)
def look : Tb → Str → List Str
  | [], _ => []
  | (k, u) :: t, x => if k = x then u else look t x
def keys (t : Tb) : List Str := t.map (·.1)
def insK (ks : List Str) (x : Str) : List Str := if x ∈ ks then ks else ks ++ [x]
def mergeU (m us : List Str) : List Str := m ++ us.filter fun u => decide (u ∉ m)
def lineL (t : Tb) (m : List Str) (bs : List Str) : List Str := bs.foldl (fun m b => mergeU m (look t b)) m
def lineOf (t : Tb) (r : Row) : List Str := lineL t [r.1] r.2
def t0 : Tb := [(sErr, [sErr]), (sVac, [sVac, sErr])]
def stepT (t : Tb) (r : Row) : Tb := t ++ [(r.1, lineOf t r)]
def ups (rs : List Row) : Tb := rs.foldl stepT t0
theorem ups_succ {rs : List Row} {i : Nat} {r : Row} (h : rs[i]? = some r) : ups (rs.take (i + 1)) = stepT (ups (rs.take i)) r := by
  unfold ups
  rw [List.take_add_one, h]
  simp
theorem ups_snoc (rs : List Row) (r : Row) : ups (rs ++ [r]) = stepT (ups rs) r := by unfold ups; simp
theorem keys_ups (rs : List Row) : keys (ups rs) = base0 ++ rs.map (·.1) := by
  have h : ∀ (rs : List Row) (t : Tb), keys (rs.foldl stepT t) = keys t ++ rs.map (·.1) := by
    intro rs
    induction rs with
    | nil => intro t; simp
    | cons r rs ih =>
      intro t
      rw [List.foldl_cons, ih]
      simp [keys, stepT]
  exact h rs t0
theorem keys_ups_take (rs : List Row) (i : Nat) : keys (ups (rs.take i)) = knownAt rs i := keys_ups _
theorem foldl_insK : ∀ (us ks : List Str), us.Nodup → us.foldl insK ks = mergeU ks us
  | [], ks, _ => by simp [mergeU]
  | u :: us, ks, h => by
    have h1 := List.nodup_cons.mp h
    rw [List.foldl_cons, foldl_insK us _ h1.2]
    unfold insK mergeU
    by_cases hu : u ∈ ks
    · rw [if_pos hu, List.filter_cons]
      simp [hu]
    · rw [if_neg hu, List.filter_cons]
      simp only [hu, not_false_eq_true, decide_true, if_true]
      rw [List.append_assoc, List.singleton_append]
      congr 2
      apply List.filter_congr
      intro x hx
      have : x ≠ u := fun e => h1.1 (e ▸ hx)
      simp [this]
structure LineOk (pre : List Str) (x : Str) (us : List Str) : Prop where
  nd : us.Nodup
  self : x ∈ us
  err : sErr ∈ us
  sub : ∀ u ∈ us, u = x ∨ u ∈ pre
def TOk (t : Tb) : Prop := ∀ a x us b, t = a ++ (x, us) :: b → LineOk (keys a) x us ∧ x ∉ keys a
theorem tok_t0 : TOk t0 := by
  intro a x us b h
  unfold t0 at h
  rcases a with _ | ⟨p, a⟩
  · simp at h
    obtain ⟨⟨rfl, rfl⟩, _⟩ := h
    exact ⟨⟨by simp, by simp, by simp, by simp⟩, by simp [keys]⟩
  · rcases a with _ | ⟨q, a⟩
    · simp at h
      obtain ⟨rfl, ⟨rfl, rfl⟩, _⟩ := h
      refine ⟨⟨by simp [err_ne_vac.symm], by simp, by simp, ?_⟩, ?_⟩
      · intro u hu
        simp [keys] at *
        exact hu
      · simp [keys, err_ne_vac.symm]
    · simp at h
theorem look_mem : ∀ {t : Tb} {x : Str}, x ∈ keys t → ∃ a b, t = a ++ (x, look t x) :: b
  | [], x, h => by simp [keys] at h
  | (k, u) :: t, x, h => by
    by_cases e : k = x
    · subst e
      refine ⟨[], t, ?_⟩
      simp [look]
    · have h2 : x ∈ keys t := by
        unfold keys at *
        rcases List.mem_cons.mp h with e2 | h2
        · exact absurd e2.symm e
        · exact h2
      obtain ⟨a, b, hab⟩ := look_mem h2
      refine ⟨(k, u) :: a, b, ?_⟩
      simp only [look, if_neg e, List.cons_append]
      rw [← hab]
theorem keys_mid {a b : Tb} {x : Str} {us : List Str} : keys (a ++ (x, us) :: b) = keys a ++ x :: keys b := by simp [keys]
theorem TOk.line {t : Tb} (T : TOk t) {x : Str} (h : x ∈ keys t) : (look t x).Nodup ∧ x ∈ look t x ∧ sErr ∈ look t x ∧ ∀ u ∈ look t x, u ∈ keys t := by
  obtain ⟨a, b, e⟩ := look_mem h
  obtain ⟨L, _⟩ := T a x (look t x) b e
  refine ⟨L.nd, L.self, L.err, fun u hu => ?_⟩
  rw [e, keys_mid]
  rcases L.sub u hu with rfl | hu
  · simp
  · exact List.mem_append_left _ hu
theorem TOk.nodup : ∀ {t : Tb}, TOk t → (keys t).Nodup := by
  intro t T
  have h : ∀ (b a : Tb), t = a ++ b → (keys a).Nodup → (keys t).Nodup := by
    intro b
    induction b with
    | nil => intro a e h; rw [e, List.append_nil]; exact h
    | cons p b ih =>
      intro a e h
      obtain ⟨x, us⟩ := p
      refine ih (a ++ [(x, us)]) (by rw [e]; simp) ?_
      have := (T a x us b e).2
      unfold keys at *
      rw [List.map_append]
      refine List.nodup_append.mpr ⟨h, by simp, ?_⟩
      intro c hc d hd q
      have : d = x := by simpa using hd
      subst this
      subst q
      contradiction
  exact h t [] (by simp) (by simp [keys])
theorem split_uniq {a b c d : Tb} {x : Str} {us vs : List Str} (h : a ++ (x, us) :: b = c ++ (x, vs) :: d) (ha : x ∉ keys a) (hc : x ∉ keys c) : a = c := by
  induction a generalizing c with
  | nil =>
    rcases c with _ | ⟨q, c⟩
    · rfl
    · simp at h
      exfalso
      apply hc
      rw [← h.1]
      simp [keys]
  | cons p a ih =>
    rcases c with _ | ⟨q, c⟩
    · simp at h
      exfalso
      apply ha
      rw [h.1]
      simp [keys]
    · simp only [List.cons_append, List.cons.injEq] at h
      rw [h.1, ih h.2 (fun m => ha (by unfold keys at *; exact List.mem_cons_of_mem _ m)) (fun m => hc (by unfold keys at *; exact List.mem_cons_of_mem _ m))]
theorem TOk.back {t : Tb} (T : TOk t) {x y : Str} (hx : x ∈ keys t) (hy : y ∈ look t x) (ne : y ≠ x) : x ∉ look t y := by
  intro hxy
  obtain ⟨a, b, e⟩ := look_mem hx
  obtain ⟨L, hn⟩ := T a x _ b e
  have hya : y ∈ keys a := (L.sub y hy).resolve_left ne
  have hyt : y ∈ keys t := by rw [e, keys_mid]; exact List.mem_append_left _ hya
  obtain ⟨c, d, e2⟩ := look_mem hyt
  obtain ⟨M, hm⟩ := T c y _ d e2
  have hxc : x ∈ keys c := (M.sub x hxy).resolve_left ne.symm
  -- y stands in a, so c is a beginning of a
  obtain ⟨a1, a2, e3⟩ := look_mem hya
  have e4 : t = a1 ++ (y, look a y) :: (a2 ++ (x, look t x) :: b) := by
    rw [List.append_cons, ← List.append_assoc] 
    conv => lhs; rw [e, e3]
    simp
  have hm2 : y ∉ keys a1 := (T a1 y _ _ e4).2
  have : c = a1 := split_uniq (e2.symm.trans e4) hm hm2
  subst this
  apply hn
  rw [e3, keys_mid]
  exact List.mem_append_left _ hxc
theorem mergeU_ok {t : Tb} {m us : List Str} (hm : m.Nodup) (hu : us.Nodup) : (mergeU m us).Nodup := by
  unfold mergeU
  refine List.nodup_append.mpr ⟨hm, hu.filter _, ?_⟩
  intro a ha b hb e
  subst e
  have := (List.mem_filter.mp hb).2
  simp at this
  exact this ha
theorem lineL_ok {t : Tb} (T : TOk t) {x : Str} : ∀ (bs m : List Str), (∀ b ∈ bs, b ∈ keys t) → m.Nodup → (∀ u ∈ m, u = x ∨ u ∈ keys t) →
    (lineL t m bs).Nodup ∧ (∀ u ∈ lineL t m bs, u = x ∨ u ∈ keys t) ∧ (∀ u ∈ m, u ∈ lineL t m bs) ∧ (bs ≠ [] → sErr ∈ lineL t m bs)
  | [], m, _, h1, h2 => ⟨h1, h2, fun u hu => hu, fun h => absurd rfl h⟩
  | b :: bs, m, hb, h1, h2 => by
    have L := T.line (hb b List.mem_cons_self)
    have n1 := mergeU_ok (t := t) h1 L.1
    have s1 : ∀ u ∈ mergeU m (look t b), u = x ∨ u ∈ keys t := by
      intro u hu
      rcases List.mem_append.mp hu with hu | hu
      · exact h2 u hu
      · exact .inr (L.2.2.2 u (List.mem_filter.mp hu).1)
    obtain ⟨q1, q2, q3, q4⟩ := lineL_ok T bs (mergeU m (look t b)) (fun c hc => hb c (List.mem_cons_of_mem _ hc)) n1 s1
    refine ⟨q1, q2, fun u hu => q3 u (List.mem_append_left _ hu), fun _ => ?_⟩
    apply q3
    by_cases he : sErr ∈ m
    · exact List.mem_append_left _ he
    · exact List.mem_append_right _ (List.mem_filter.mpr ⟨L.2.2.1, by simpa using he⟩)
theorem tok_step {t : Tb} (T : TOk t) {r : Row} (R : RowOk (keys t) r) : TOk (stepT t r) := by
  intro a x us b e
  unfold stepT at e
  rcases List.eq_nil_or_concat b with rfl | ⟨b', z, rfl⟩
  · have := List.append_inj' e rfl
    obtain ⟨rfl, e2⟩ := this
    simp at e2
    obtain ⟨rfl, rfl⟩ := e2
    have := lineL_ok T (x := r.1) r.2 [r.1] R.sub (by simp) (by simp)
    exact ⟨⟨this.1, this.2.2.1 _ (by simp), this.2.2.2 R.ne, this.2.1⟩, R.new⟩
  · rw [List.concat_eq_append, ← List.cons_append, ← List.append_assoc] at e
    have := List.append_inj' e rfl
    exact T a x us b' this.1
theorem tok_ups {rs : List Row} (g : Good rs) : ∀ i, i ≤ rs.length → TOk (ups (rs.take i))
  | 0, _ => by simpa [ups] using tok_t0
  | i + 1, h => by
    have hi : rs[i]? = some rs[i] := List.getElem?_eq_getElem (by omega)
    rw [ups_succ hi]
    refine tok_step (tok_ups g i (by omega)) ?_
    rw [keys_ups_take]
    exact g i _ hi
end K2
end
section
set_option Elab.async false
set_option maxRecDepth 100000
set_option linter.all false
namespace K2
open PySem L2
/-! ### the text by places -/
def top (i : Nat) : Stmt := PySem.Challenge.pw_whatleaves_k03_rows_refused.main.body.getD i (.Pass ⟨0, 0, 0, 0⟩)
abbrev sDraw : Stmt := top 28
abbrev sPick : Stmt := top 29
/-! ### what the built-in names hold -/
structure Bi (mg : Str → Option Value) : Prop where
  len : mg "len" = none
  int : mg "int" = none
  abs : mg "abs" = none
  range : mg "range" = none
  list : mg "list" = none
  tuple : mg "tuple" = none
  enumerate : mg "enumerate" = none
  isinstance : mg "isinstance" = none
  str : mg "str" = none
  set : mg "set" = none
  all : mg "all" = none
  repr : mg "repr" = none
/-! ### the pen -/
def penO (c : Addr) (a l : Int) : HO := .lst [.ref c, .int a, .int l]
structure Pen (H : Hp) (p c : Addr) (ns : List Int) (n : Nat) : Prop where
  pen : ∃ a l : Int, H p = some (penO c a l) ∧ 0 ≤ a ∧ a ≤ n ∧ 0 ≤ l
  cells : H c = some (.lst (ns.map V.int))
  small : ns.length ≤ 63
def Keep (p : Addr) (H H' : Hp) : Prop := ∀ b o, H b = some o → b ≠ p → H' b = some o
theorem Keep.refl (p : Addr) (H : Hp) : Keep p H H := fun _ _ h _ => h
theorem Keep.trans {p : Addr} {H H1 H2 : Hp} (a : Keep p H H1) (b : Keep p H1 H2) : Keep p H H2 := fun c o h n => b c o (a c o h n) n
theorem Keep.new {p q : Addr} {H H1 : Hp} {o : HO} (k : Keep p H H1) (h : H q = none) : Keep p H (upd H1 q o) := fun b u hb n => by
  rw [upd_ne (ne_of_none hb h)]
  exact k b u hb n
theorem Keep.at {p : Addr} {H H1 : Hp} {o : HO} (k : Keep p H H1) : Keep p H (upd H1 p o) := fun b u hb n => by
  rw [upd_ne n]
  exact k b u hb n
theorem Pen.mono {H : Hp} {p c : Addr} {ns : List Int} {n m : Nat} (h : Pen H p c ns n) (e : n ≤ m) : Pen H p c ns m := by
  obtain ⟨a, l, h1, h2, h3, h4⟩ := h.pen
  exact ⟨⟨a, l, h1, h2, by omega, h4⟩, h.cells, h.small⟩
theorem Pen.ne {H : Hp} {p c : Addr} {ns : List Int} {n : Nat} (h : Pen H p c ns n) : c ≠ p := by
  obtain ⟨a, l, h1, _⟩ := h.pen
  refine ne_of h.cells h1 ?_
  unfold penO
  intro e
  injection e with e
  cases ns with
  | nil => simp at e
  | cons n ns => simp at e
/-- the pen behind a new object -/
theorem Pen.new {H : Hp} {p c q : Addr} {ns : List Int} {n : Nat} {o : HO} (h : Pen H p c ns n) (hq : H q = none) : Pen (upd H q o) p c ns n := by
  obtain ⟨a, l, h1, h2, h3, h4⟩ := h.pen
  exact ⟨⟨a, l, by rw [upd_ne (ne_of_none h1 hq)]; exact h1, h2, h3, h4⟩, by rw [upd_ne (ne_of_none h.cells hq)]; exact h.cells, h.small⟩
/-- the pen behind a store elsewhere -/
theorem Pen.upd' {H : Hp} {p c q : Addr} {ns : List Int} {n : Nat} {o : HO} (h : Pen H p c ns n) (h1 : p ≠ q) (h2 : c ≠ q) : Pen (upd H q o) p c ns n := by
  obtain ⟨a, l, g1, g2, g3, g4⟩ := h.pen
  exact ⟨⟨a, l, by rw [upd_ne h1]; exact g1, g2, g3, g4⟩, by rw [upd_ne h2]; exact h.cells, h.small⟩
theorem Pen.set {H : Hp} {p c : Addr} {ns : List Int} {n m : Nat} (h : Pen H p c ns n) {a l : Int} (h1 : 0 ≤ a) (h2 : a ≤ m) (h3 : 0 ≤ l) : Pen (upd H p (penO c a l)) p c ns m :=
  ⟨⟨a, l, upd_same, h1, h2, h3⟩, by rw [upd_ne h.ne]; exact h.cells, h.small⟩

def spDraw : Sp := fun vs H Q _ => ∃ (p c : Addr) (ns : List Int) (n : Nat) (m : Int), vs = [.ref p, .int m] ∧ Pen H p c ns n ∧ n ≤ 100000 ∧ 0 < m ∧ m < 1073741824 ∧
  ∀ (v : Int) (H' : Hp), 0 ≤ v → v < m → Keep p H H' → Pen H' p c ns (n + 1) → Q (.int v) H'

section
variable {P : Program} {w : World} {K : PySem.W.Frag} {mg : Str → Option Value} {base : Heap}
abbrev nDraw : List Str := ["_law_pen_here", "_law_many", "_law_digit", "_law_at", "_law_cell", "_law_great", "_law_mixed_here"]
theorem scDraw : FnScope nDraw ["_law_pen_here", "_law_many"] (defScope sDraw) := ⟨rfl, rfl, rfl, by decide +kernel, rfl, by decide +kernel, by decide +kernel⟩
theorem fmod_lo {a m : Int} (h : 0 < m) : 0 ≤ a.fmod m := Int.fmod_nonneg_of_pos a h
theorem fmod_hi {a m : Int} (h : 0 < m) : a.fmod m < m := Int.fmod_lt_of_pos a h
theorem fdiv_nn {a m : Int} (ha : 0 ≤ a) (h : 0 < m) : 0 ≤ a.fdiv m := Int.fdiv_nonneg ha (Int.le_of_lt h)
theorem mul_bnd {x y X Y : Int} (h1 : 0 ≤ x) (h2 : x ≤ X) (h3 : 0 ≤ y) (h4 : y ≤ Y) : 0 ≤ x * y ∧ x * y ≤ X * Y :=
  ⟨Int.mul_nonneg h1 h3, Int.mul_le_mul h2 h4 h3 (Int.le_trans h1 h2)⟩
theorem ints_dp (K : PySem.W.Frag) (H : Hp) : ∀ ns : List Int, DpAll K H (ns.map V.int) (ns.map PyData.int)
  | [] => .nil
  | n :: ns => .cons (.int n) (ints_dp K H ns)
theorem canLay_ints : ∀ ns : List Int, PyData.canLayAll0 (ns.map PyData.int) = true
  | [] => rfl
  | n :: ns => by
    show (true && PyData.canLayAll0 (ns.map PyData.int)) = true
    rw [canLay_ints ns]
    rfl
theorem depth_ints : ∀ ns : List Int, PyData.depthAll (ns.map PyData.int) = 0
  | [] => rfl
  | n :: ns => by
    show max 0 (PyData.depthAll (ns.map PyData.int)) = 0
    rw [depth_ints ns]
    rfl
theorem shaped_ints (ns : List Int) : SeqAt.shaped (.list (ns.map PyData.int)) = true := by
  show (PyData.canLayAll0 (ns.map PyData.int) && decide (PyData.depthAll (ns.map PyData.int) + 1 ≤ 64)) = true
  rw [canLay_ints, depth_ints]
  rfl
theorem eqv_nil (ns : List Int) : (!PyData.eqv (.list (ns.map PyData.int)) (.list [])) = !ns.isEmpty := by
  cases ns <;> rfl
theorem len_pos_lt {n : Nat} {a : Int} (h : 0 < n) : 0 ≤ a.fmod (n : Int) ∧ a.fmod (n : Int) < n := ⟨fmod_lo (by omega), fmod_hi (by omega)⟩
theorem ok_draw {f : Addr} {fd : FuncData} (F : Fun K "_law_draw" "_law_draw" sDraw f fd) (T : Bi mg) : FnOk P w K mg base CX0 1 f fd ["_law_pen_here", "_law_many"] spDraw := by
  refine F.ok scDraw (fun vs H Q E h => ?_) (fun cdv A outer s H vs Q E hr h => ?_)
  · obtain ⟨p, c, ns, n, m, rfl, _⟩ := h
    rfl
  · obtain ⟨p, c, ns, n, m, rfl, hP, hn, m0, m1, k⟩ := h
    have hmne : m ≠ 0 := by omega
    have hmab : m.natAbs < 1073741824 := by omega
    obtain ⟨a, l, hp, a0, an, l0⟩ := hP.pen
    unfold penO at hp
    refine ⟨_, (pss_cons (ps_if (pt_cmpR op_gt (pe_ix ix_list (pv 0) pe_int (fun _ _ => rfl)) pe_int (nomark _))
      (pss_cons (ps_set (i := 2) scDraw.nd rfl (Or.inl rfl) (pe_op op_modN (pe_callTy call_int1 (by rfl) T.int (by decide +kernel) (pa_cons (pe_ix ix_list (pv 0) pe_int (fun _ _ => rfl)) pa_nil)) (pv 1)))
        (pss_cons (ps_asg (pe_op op_fdivN (pe_ix ix_list (pv 0) pe_int (fun _ _ => rfl)) (pv 1)) (pg_sub (pv 0) pe_int set_list))
        (pss_one (ps_ret (pv 2)))))
      pss_nil)
      (pss_cons (ps_set (i := 3) scDraw.nd rfl (Or.inl rfl) (pe_ix ix_list (pv 0) pe_int (fun _ _ => rfl)))
      (pss_cons (ps_asg (pe_op op_add (pv 3) pe_int) (pg_sub (pv 0) pe_int set_list))
      (pss_cons (ps_set (i := 4) scDraw.nd rfl (Or.inl rfl) (pe_op op_add (pe_op op_mul pe_int (pv 3)) pe_int))
      (pss_cons (ps_if (pt_cmpR (op_neD hr.units) (pe_ix ix_list (pv 0) pe_int (fun _ _ => rfl)) (pe_lst pa_nil) (nomark _))
      (pss_one (ps_set (i := 4) scDraw.nd rfl (Or.inl rfl) (pe_ix ix_list (pe_ix ix_list (pv 0) pe_int (fun _ _ => rfl)) (pe_op op_modN (pe_callTy call_int1 (by rfl) T.int (by decide +kernel) (pa_cons (pv 3) pa_nil)) (pe_callB call_len_seq (by rfl) T.len PySem.boot_len (pa_cons (pe_ix ix_list (pv 0) pe_int (fun _ _ => rfl)) pa_nil))) (fun _ _ => rfl))))
      pss_nil)
      (pss_cons (ps_if (PW.pt (pw_and (pt_cmpR op_lt (pv 3) (pe_callB call_len_seq (by rfl) T.len PySem.boot_len (pa_cons (pe_ix ix_list (pv 0) pe_int (fun _ _ => rfl)) pa_nil)) (nomark _)) (pw_and1 (pt_cmpR op_ge (pe_callB call_abs (by rfl) T.abs (by decide +kernel) (pa_cons (pv 4) pa_nil)) (pe_op op_pow pe_int pe_int) (nomark _)))))
      (pss_cons (ps_set (i := 5) scDraw.nd rfl (Or.inl rfl) (pe_op op_add (pe_op op_mul pe_int (pe_op op_sub (pe_callB call_abs (by rfl) T.abs (by decide +kernel) (pa_cons (pv 4) pa_nil)) (pe_op op_pow pe_int pe_int))) (pe_callTy call_int1 (by rfl) T.int (by decide +kernel) (pa_cons (pe_cmpR op_lt (pv 4) pe_int (nomark _)) pa_nil))))
        (pss_cons (ps_asg (pe_op op_fdivN (pv 5) (pv 1)) (pg_sub (pv 0) pe_int set_list))
        (pss_one (ps_ret (pe_op op_modN (pe_callTy call_int1 (by rfl) T.int (by decide +kernel) (pa_cons (pv 5) pa_nil)) (pv 1))))))
      pss_nil)
      (pss_cons (ps_set (i := 6) scDraw.nd rfl (Or.inl rfl) (pe_op op_modN (pe_callTy call_int1 (by rfl) T.int (by decide +kernel) (pa_cons (pe_op op_pow (pe_op op_add (pe_op op_add (pe_op op_modN (pe_callTy call_int1 (by rfl) T.int (by decide +kernel) (pa_cons (pv 4) pa_nil)) pe_int) (pe_op op_mul pe_int (pv 3))) pe_int) pe_int) pa_nil)) pe_int))
      (pss_cons (ps_set (i := 6) scDraw.nd rfl (Or.inl rfl) (pe_op op_modN (pe_callTy call_int1 (by rfl) T.int (by decide +kernel) (pa_cons (pe_op op_pow (pe_op op_add (pe_op op_add (pe_op op_mul (pv 6) (pe_op op_add (pe_op op_mul pe_int (pv 3)) pe_int)) (pe_op op_mul (pe_op op_mul pe_int (pv 3)) (pv 3))) pe_int) pe_int) pa_nil)) pe_int))
      (pss_one (ps_ret (pe_op op_modN (pe_callTy call_int1 (by rfl) T.int (by decide +kernel) (pa_cons (pe_op op_fdivN (pv 6) pe_int) pa_nil)) (pv 1)))))))))))), ?_⟩
    refine ⟨_, rfl, p, _, _, _, rfl, rfl, SqL.of hp, atI_nat (j := 2) rfl, _, _, rfl, rfl, _, rfl, ite2 (fun hg => ?_) (fun hg => ?_)⟩
    · have hl := of_decide_eq_true hg
      refine ⟨_, rfl, p, _, _, _, rfl, rfl, SqL.of hp, atI_nat (j := 2) rfl, .inl ⟨_, rfl, _, rfl, _, _, rfl, rfl, hmne, ?_⟩⟩
      refine ⟨_, rfl, p, _, _, _, rfl, rfl, SqL.of hp, atI_nat (j := 2) rfl, _, rfl, _, _, rfl, rfl, ⟨hmne, hmab⟩, _, rfl, p, _, _, 2, rfl, rfl, hp, rfl, _, rfl, ?_⟩
      refine k _ _ (fmod_lo m0) (fmod_hi m0) (Keep.refl _ _).at ?_
      exact hP.set a0 (by omega) (fdiv_nn l0 m0)
    · have hat : a ≤ 100000 := by omega
      -- at = pen[1]; pen[1] = at + 1; cell = 8627 * at + 349; pen[0] != []
      refine ⟨_, rfl, p, _, _, _, rfl, rfl, SqL.of hp, atI_nat (j := 1) rfl, _, rfl, _, _, rfl, rfl, _, rfl, p, _, _, 1, rfl, rfl, hp, rfl, ?_⟩
      generalize hH1 : upd H p (HO.lst ([V.ref c, V.int a, V.int l].set 1 ((fun i j => V.int (i + j)) a 1))) = H1
      replace hH1 : upd H p (.lst [.ref c, .int (a + 1), .int l]) = H1 := hH1
      have hp1 : H1 p = some (.lst [.ref c, .int (a + 1), .int l]) := by rw [← hH1]; exact upd_same
      have hc1 : H1 c = some (.lst (ns.map V.int)) := by rw [← hH1, upd_ne hP.ne]; exact hP.cells
      have k1 : Keep p H H1 := by rw [← hH1]; exact (Keep.refl p H).at
      refine ⟨_, rfl, _, _, rfl, rfl, .inl ⟨by decide, by decide⟩, _, _, rfl, rfl, ?_⟩
      refine ⟨_, rfl, p, _, _, _, rfl, rfl, SqL.of hp1, atI_nat (j := 0) rfl, Nat.zero_le _, fun e he => ?_⟩
      have he0 : H e = none := by
        cases q : H e with
        | none => rfl
        | some o =>
          by_cases ep : e = p
          · rw [ep, hp1] at he; cases he
          · rw [k1 e o q ep] at he; cases he
      have hp2 : (upd H1 e (.lst [])) p = some (.lst [.ref c, .int (a + 1), .int l]) := by rw [upd_ne (ne_of_none hp1 he)]; exact hp1
      have hc2 : (upd H1 e (.lst [])) c = some (.lst (ns.map V.int)) := by rw [upd_ne (ne_of_none hc1 he)]; exact hc1
      have k2 : Keep p H (upd H1 e (.lst [])) := k1.new he0
      have P2 : Pen (upd H1 e (.lst [])) p c ns (n + 1) := ⟨⟨a + 1, l, hp2, by omega, by omega, l0⟩, hc2, hP.small⟩
      have hee : (upd H1 e (.lst [])) e = some (.lst []) := upd_same
      generalize hH2 : upd H1 e (.lst []) = H2 at hp2 hc2 k2 P2 hee ⊢
      refine ⟨.list (ns.map PyData.int), .list [], .lst (SqL.of hc2) (ints_dp _ _ ns), .lst (SqL.of hee) .nil, shaped_ints ns, rfl, _, rfl, ?_⟩
      rw [eqv_nil]
      have hz0 : ns = [] ∨ ∃ z r, ns = z :: r := by cases ns with
        | nil => exact .inl rfl
        | cons z r => exact .inr ⟨z, r, rfl⟩
      have hzc : ∀ j : Nat, j < ns.length → ∃ z : Int, (ns.map V.int)[j]? = some (V.int z) := fun j hj => ⟨ns[j], by rw [List.getElem?_map, List.getElem?_eq_getElem hj]; rfl⟩
      refine ite2 (fun hb => ?b1) (fun hb => ?b2)
      case' b1 =>
        have hlen : 0 < ns.length := by
          cases ns with
          | nil => cases hb
          | cons z r => simp
        have hlen2 : (0 : Int) < ((ns.map V.int).length : Int) := by rw [List.length_map]; omega
        obtain ⟨j, hj⟩ : ∃ j : Nat, a.fmod ((ns.map V.int).length : Int) = (j : Int) := ⟨(a.fmod ((ns.map V.int).length : Int)).toNat, (Int.toNat_of_nonneg (fmod_lo hlen2)).symm⟩
        have hj2 : j < ns.length := by
          have := fmod_hi (a := a) hlen2
          rw [hj, List.length_map] at this
          omega
        obtain ⟨z, hz⟩ := hzc j hj2
        refine ⟨_, rfl, p, _, _, _, rfl, rfl, SqL.of hp2, atI_nat (j := 0) rfl, _, rfl, .inl ⟨_, rfl, _, rfl, p, _, _, _, rfl, rfl, SqL.of hp2, atI_nat (j := 0) rfl, c, _, rfl, .inl (SqL.of hc2), _, _, rfl, rfl, by omega, c, _, _, _, rfl, rfl, SqL.of hc2, at_of hj hz, ?_⟩⟩
      case' b2 => generalize hz9 : (fun i j => V.int (i + j)) (8627 * a) 349 = zz; replace hz9 : zz = .int (8627 * a + 349) := hz9.symm; subst hz9; generalize 8627 * a + 349 = z
      all_goals
        -- at < len(pen[0]) and abs(cell) >= 10 ** 18
        have pw18 : (10 : Int) ^ (18 : Int).toNat = 1000000000000000000 := by decide
        have tl : ∀ (v : Int), 0 ≤ v → v < m → Q (.int v) H2 := fun v h0 h1 => k v H2 h0 h1 k2 P2
        refine (fun t => ⟨_, rfl, _, rfl, p, _, _, _, rfl, rfl, SqL.of hp2, atI_nat (j := 0) rfl, c, _, rfl, .inl (SqL.of hc2), _, _, rfl, rfl, _, rfl, ite2 (fun hq1 =>
          ⟨_, rfl, _, rfl, _, _, rfl, rfl, ⟨by decide, by decide, by decide⟩, _, _, rfl, rfl, _, rfl, ite2 (fun hq2 => ?_) (fun _ => t)⟩) (fun _ => iteF t)⟩) ?_
        · -- mixed
          refine ⟨_, rfl, .inl ⟨_, rfl, _, _, rfl, rfl, (by show (2147483549 : Int) ≠ 0; decide), _, rfl, _, _, rfl, rfl, .inl ⟨by decide, by decide⟩, _, _, rfl, rfl, _, _, rfl, rfl, _, _, rfl, rfl, ⟨by decide, by decide, ?_⟩, .inl ⟨_, rfl, _, _, rfl, rfl, (by show (2147483629 : Int) ≠ 0; decide), ?_⟩⟩⟩
          · have h1 := fmod_lo (a := z) (m := 2147483549) (by decide)
            have h2 := fmod_hi (a := z) (m := 2147483549) (by decide)
            generalize z.fmod 2147483549 = y at h1 h2 ⊢
            omega
          have g1 := fmod_lo (a := (z.fmod 2147483549 + 52361 * a + 71) ^ (3 : Int).toNat) (m := 2147483629) (by decide)
          have g2 := fmod_hi (a := (z.fmod 2147483549 + 52361 * a + 71) ^ (3 : Int).toNat) (m := 2147483629) (by decide)
          have b1 := mul_bnd (X := 2147483629) (y := 2 * a + 53) (Y := 200053) g1 (Int.le_of_lt g2) (by omega) (by omega)
          have b2 := mul_bnd (x := 61417 * a) (X := 6141700000) (y := a) (Y := 100000) (by omega) (by omega) a0 hat
          refine ⟨_, rfl, _, rfl, _, _, rfl, rfl, .inl ⟨by decide, by decide⟩, _, _, rfl, rfl, _, _, rfl, rfl, .inl ⟨?_, ?_⟩, _, rfl, _, _, rfl, rfl, .inl ⟨by decide, by decide⟩, _, rfl, _, _, rfl, rfl, .inl ⟨?_, ?_⟩, _, _, rfl, rfl, _, _, rfl, rfl, _, _, rfl, rfl, ⟨by decide, by decide, ?_⟩, .inl ⟨_, rfl, _, _, rfl, rfl, (by show (2147483587 : Int) ≠ 0; decide), ?_⟩⟩
          · omega
          · omega
          · omega
          · omega
          · omega
          have g3 := fmod_lo (a := ((((z.fmod 2147483549 + 52361 * a + 71) ^ (3 : Int).toNat).fmod 2147483629) * (2 * a + 53) + 61417 * a * a + 23) ^ (5 : Int).toNat) (m := 2147483587) (by decide)
          refine ⟨_, rfl, _, _, rfl, rfl, ⟨by decide, by decide⟩, .inl ⟨_, rfl, _, rfl, _, _, rfl, rfl, hmne, tl _ (fmod_lo m0) (fmod_hi m0)⟩⟩
        · -- great
          refine ⟨_, rfl, _, rfl, _, _, rfl, rfl, ⟨by decide, by decide, by decide⟩, _, _, rfl, rfl, _, _, rfl, rfl, .inl ⟨by decide, by decide⟩, _, rfl, _, _, rfl, rfl, .inr ⟨_, rfl, _, _, rfl, rfl, ?_⟩⟩
          refine ⟨_, rfl, _, rfl, _, _, rfl, rfl, ⟨hmne, hmab⟩, _, rfl, p, _, _, 2, rfl, rfl, hp2, rfl, _, rfl, .inl ⟨_, rfl, _, rfl, _, _, rfl, rfl, hmne, ?_⟩⟩
          refine k _ _ (fmod_lo m0) (fmod_hi m0) k2.at (P2.set (by omega) (by omega) (fdiv_nn ?_ m0))
          have hge := of_decide_eq_true hq2
          rw [pw18] at hge ⊢
          split at hge <;> split <;> omega
end
end K2
end
section
set_option Elab.async false
set_option maxRecDepth 100000
set_option linter.all false
namespace K2
open PySem L2
abbrev sBarred : Stmt := top 30
abbrev sWords : Stmt := top 31
/-- a def of the program: its text, where it stands, how it binds -/
structure Df (K : PySem.W.Frag) (mg : Str → Option Value) (x : Str) (st : Stmt) (f : Addr) (fd : FuncData) (ps : List Str) : Prop where
  F : Fun K x x st f fd
  m : mg x = some (.ref f)
  b : Binds K fd ps []
/-- a list of the heap, or a text: its items -/
def SeqV (p : Addr) (H : Hp) (y : V) (xs : List V) : Prop := (∃ l, y = .ref l ∧ l ≠ p ∧ H l = some (.lst xs)) ∨ (∃ z : Str, y = .str z ∧ xs = (codes z).map (fun c => V.str ⟨#[c]⟩) ∧ z.length ≤ 100) ∨ (∃ t, y = .ref t ∧ t ≠ p ∧ H t = some (.tup xs))
def spPick : Sp := fun vs H Q _ => ∃ (p c : Addr) (ns : List Int) (n : Nat) (y : V) (xs : List V), vs = [.ref p, y] ∧ Pen H p c ns n ∧ n ≤ 100000 ∧ SeqV p H y xs ∧ xs ≠ [] ∧ xs.length ≤ 1000 ∧
  ∀ (j : Nat) (v : V) (H' : Hp), xs[j]? = some v → Keep p H H' → Pen H' p c ns (n + 1) → Q v H'
def spBarred : Sp := fun vs H Q _ => vs = [] ∧ ∀ l, H l = none → Q (.ref l) (upd H l (.lst (barred.map V.str)))
section
variable {P : Program} {w : World} {K : PySem.W.Frag} {mg : Str → Option Value} {base : Heap}
theorem scPick : FnScope ["_law_pen_here", "_law_some"] ["_law_pen_here", "_law_some"] (defScope sPick) := ⟨rfl, rfl, rfl, by decide +kernel, rfl, by decide +kernel, by decide +kernel⟩
theorem ok_pick {f fD : Addr} {fd fdD : FuncData} (F : Fun K "_law_pick" "_law_pick" sPick f fd) (T : Bi mg) (D : Df K mg "_law_draw" sDraw fD fdD ["_law_pen_here", "_law_many"]) : FnOk P w K mg base CX0 2 f fd ["_law_pen_here", "_law_some"] spPick := by
  have GD : FnOk P w K mg base CX0 1 fD fdD ["_law_pen_here", "_law_many"] spDraw := ok_draw D.F T
  refine F.ok scPick (fun vs H Q E h => ?_) (fun cdv A outer s H vs Q E hr h => ?_)
  · obtain ⟨p, c, ns, n, y, xs, rfl, _⟩ := h
    rfl
  · obtain ⟨p, c, ns, n, y, xs, rfl, hP, hn, hS, hne, hlen, k⟩ := h
    refine ⟨_, (pss_one (ps_ret (pe_ix ix_seq (pv 1) (pe_call GD hr (by rfl) D.m D.F.kp D.b .nil pass0 (pa_cons (pv 0) (pa_cons (pe_callB call_len (by rfl) T.len PySem.boot_len (pa_cons (pv 1) pa_nil)) pa_nil))) (fun _ _ => rfl)))), ?_⟩
    have hx0 : 0 < xs.length := List.length_pos_iff.mpr hne
    have hL : LenV K y H xs.length := by
      rcases hS with ⟨l, rfl, _, hl⟩ | ⟨z, rfl, rfl, hz⟩ | ⟨t, rfl, _, ht⟩
      · exact .inl ⟨_, SqL.of hl, rfl⟩
      · refine ⟨Nat.le_trans hz (by decide), ?_⟩
        rw [List.length_map]
        rfl
      · exact .inr ⟨_, SqT.of ht, rfl⟩
    refine ⟨_, rfl, _, rfl, _, rfl, _, _, rfl, hL, p, c, ns, n, _, rfl, hP, hn, by omega, by omega, fun v H' h0 h1 kp P' => ?_⟩
    obtain ⟨j, rfl⟩ : ∃ j : Nat, v = (j : Int) := ⟨v.toNat, (Int.toNat_of_nonneg h0).symm⟩
    have hj : j < xs.length := by omega
    have hv : xs[j]? = some xs[j] := List.getElem?_eq_getElem hj
    rcases hS with ⟨l, rfl, hlp, hl⟩ | ⟨z, rfl, rfl, hz⟩ | ⟨t, rfl, htp, ht⟩
    · exact .inl ⟨l, xs, _, _, rfl, rfl, SqL.of (kp l _ hl hlp), atI_nat hv, k j _ H' hv kp P'⟩
    · refine .inr (.inr ⟨z, _, (codes z)[j]'(by rw [List.length_map] at hj; exact hj), rfl, rfl, Nat.le_trans hz (by decide), atI_nat (List.getElem?_eq_getElem _), k j _ H' ?_ kp P'⟩)
      rw [List.getElem?_map, List.getElem?_eq_getElem (by rw [List.length_map] at hj; exact hj)]
      rfl
    · exact .inr (.inl ⟨t, xs, _, _, rfl, rfl, SqT.of (kp t _ ht htp), atI_nat hv, k j _ H' hv kp P'⟩)
theorem scBarred : FnScope ["_law_text"] [] (defScope sBarred) := ⟨rfl, rfl, rfl, by decide +kernel, rfl, by decide +kernel, by decide +kernel⟩
theorem ok_barred {f : Addr} {fd : FuncData} (F : Fun K "_law_barred" "_law_barred" sBarred f fd) : FnOk P w K mg base CX0 1 f fd [] spBarred := by
  refine F.ok scBarred (fun vs H Q E h => ?_) (fun cdv A outer s H vs Q E hr h => ?_)
  · obtain ⟨rfl, _⟩ := h
    rfl
  · obtain ⟨rfl, k⟩ := h
    refine ⟨_, (pss_cons (ps_set (i := 0) scBarred.nd rfl (Or.inl rfl) pe_str)
      (pss_cons (ps_set (i := 0) scBarred.nd rfl (Or.inl rfl) (pe_op op_add_str (pv 0) pe_str))
      (pss_one (ps_ret (pe_split (pv 0) pe_str))))), ?_⟩
    refine ⟨_, rfl, _, _, rfl, rfl, by decide +kernel, _, rfl, ⟨_, rfl⟩, _, _, rfl, rfl, by decide +kernel, by decide +kernel, fun l hl => ?_⟩
    have e : barred = Txt.split ((Str.ofString "pass raise from none again return returns break call handling else either or loop") ++ Str.ofString " try except as finally with quiet class def error vacant") (Str.ofString " ") := by decide +kernel
    have := k l hl
    rw [e] at this
    exact this
end
end K2
end
section
set_option Elab.async false
set_option maxRecDepth 100000
set_option linter.all false
namespace K2
open PySem L2
theorem strs_ne_pen {ys : List Str} {c : Addr} {a l : Int} : HO.lst (ys.map V.str) ≠ penO c a l := by
  unfold penO
  intro e
  injection e with e
  cases ys with
  | nil => simp at e
  | cons y ys => simp at e
theorem str_eqV (a b : Str) : eqV (.str a) (.str b) = decide (a = b) := by
  show (a == b) = decide (a = b)
  by_cases h : a = b
  · simp [h]
  · simp [h]
theorem inV_strs (x : Str) : ∀ ys : List Str, inV (.str x) (ys.map V.str) = decide (x ∈ ys)
  | [] => rfl
  | y :: ys => by
    show (eqV (.str y) (.str x) || inV (.str x) (ys.map V.str)) = decide (x ∈ y :: ys)
    rw [inV_strs x ys, str_eqV]
    by_cases h : y = x
    · subst h; simp
    · have h2 : ¬ x = y := fun e => h e.symm
      simp [h, h2]
theorem flat_strs : ∀ ys : List Str, (ys.map V.str).all flatV = true
  | [] => rfl
  | y :: ys => by
    show (true && (ys.map V.str).all flatV) = true
    rw [flat_strs ys]
    rfl
theorem codes_append (x y : Str) : codes (x ++ y) = codes x ++ codes y := TL.tl_append x y
theorem codes_one (c : Nat) : codes ⟨#[c]⟩ = [c] := rfl
theorem len_codes (x : Str) : x.length = (codes x).length := by
  show x.cps.size = x.cps.toList.length
  simp
theorem join_ones : ∀ l : List Nat, codes (Txt.join Str.empty (l.map fun c => (⟨#[c]⟩ : Str))) = l := by
  intro l
  rw [TL.join_eq]
  show TL.tl (Str.join Str.empty _) = l
  rw [TL.tl_join]
  show TL.joinL [] _ = l
  induction l with
  | nil => rfl
  | cons c l ih =>
    cases l with
    | nil => rfl
    | cons d l =>
      show [c] ++ ([] ++ TL.joinL [] _) = _
      rw [List.nil_append]
      show [c] ++ TL.joinL [] (List.map TL.tl (List.map (fun c => (⟨#[c]⟩ : Str)) (d :: l))) = c :: d :: l
      rw [ih]
      rfl
theorem cut_to {z : Str} {k : Nat} (h : k ≤ (codes z).length) : codes (cutS z none (some (k : Int))) = (codes z).take k := by
  unfold cutS codes
  rw [HT.sIx_nat, HT.sIx_none]
  have e : z.length = z.cps.toList.length := len_codes z
  have h' : k ≤ z.cps.toList.length := h
  simp only [List.drop_zero, Nat.sub_zero]
  rw [Nat.min_eq_left (by omega)]
theorem cut_from {z : Str} {k : Nat} (h : k ≤ (codes z).length) : codes (cutS z (some (k : Int)) none) = (codes z).drop k := by
  unfold cutS codes
  rw [HT.sIx_nat, HT.sIx_none]
  have e : z.length = z.cps.toList.length := len_codes z
  have h' : k ≤ z.cps.toList.length := h
  rw [Nat.min_eq_left (by omega), e]
  simp only []
  rw [List.take_of_length_le (by rw [List.length_drop]; omega)]
theorem Pen.pne {H : Hp} {p c q : Addr} {ns : List Int} {n : Nat} (h : Pen H p c ns n) (hq : H q = none) : p ≠ q := by
  obtain ⟨a, l, g, _⟩ := h.pen
  exact ne_of_none g hq
theorem Pen.cne {H : Hp} {p c q : Addr} {ns : List Int} {n : Nat} (h : Pen H p c ns n) (hq : H q = none) : c ≠ q := ne_of_none h.cells hq
theorem Keep.fresh {p c q : Addr} {ns : List Int} {n : Nat} {H H1 : Hp} (k : Keep p H H1) (P1 : Pen H1 p c ns n) (h : H1 q = none) : H q = none := by
  cases e : H q with
  | none => rfl
  | some o =>
    rw [k q o e (P1.pne h).symm] at h
    cases h
theorem Pen.strs_ne {H : Hp} {p c q : Addr} {ns : List Int} {n : Nat} {ys : List Str} (h : Pen H p c ns n) (hq : H q = some (.lst (ys.map V.str))) : q ≠ p := fun e => by
  obtain ⟨a, l, g, _⟩ := h.pen
  rw [e, g] at hq
  exact strs_ne_pen (Option.some.inj hq).symm
section
variable {X : Cx}
theorem mulOk_small {x : Str} {k : Int} (h0 : 0 ≤ k) (h1 : k ≤ 8) (hx : x.length ≤ 8) : MulOk x k := by
  refine ⟨?_, fun _ _ => ?_, fun _ _ => ?_⟩
  · simp only [Bool.or_eq_false_iff, decide_eq_false_iff_not]
    omega
  · have : k = 0 ∨ k = 1 ∨ k = 2 ∨ k = 3 ∨ k = 4 ∨ k = 5 ∨ k = 6 ∨ k = 7 ∨ k = 8 := by omega
    rcases this with rfl | rfl | rfl | rfl | rfl | rfl | rfl | rfl | rfl <;> omega
  · unfold Builtin.Str.tooLong
    rw [decide_eq_false_iff_not]
    have h2 : x.length * k.toNat ≤ 8 * 8 := Nat.mul_le_mul hx (by omega)
    have : sizeLine = 16777216 := rfl
    omega
/-! the same rules with the written part named apart (within a comprehension) -/
theorem pe_bmK {K' : PySem.W.Frag} {T : String} {name : Str} {id : String} {r : V → List V → Hp → VK → Prop} {o e : Expr} {es : List Expr} {to : TE} {t : TA} {apos cpos : Pos} (hK : X.K = K') (pa : PlainAttrs T) (slot : PySem.Slot T name id) (hty : typeOf (.builtin id) = pure (.type "method_descriptor")) (hm : MtR X id r) (ho : PE X o to) (ha : PA X (e :: es) t)
    (hbase : attributeBase o name X.env (eval o X.env) = eval o X.env := by rfl)
    (hfew : ((backTo cpos (starEach (e :: es) X.env)).all (fun x => !x.1) && (backToKw cpos (keywordEach [] X.env)).all (fun x => x.1.isSome)
      && decide ((e :: es).length + ([] : List Keyword).length + (if ([] : List Keyword).isEmpty then 0 else 1) < 30)) = true := by rfl)
    (hline : (apos.endLine == cpos.line) = true := by rfl) (hs : starEach (e :: es) X.env = (false, eval e X.env) :: starEach es X.env := by rfl) (hplain : (backTo cpos (starEach es X.env)).any (·.1) = false := by rfl) :
    PE X (.Call (.Attribute o name apos) (e :: es) [] cpos) (tBM K' T r to t) := by
  subst hK
  exact pe_bm pa slot hty hm ho ha hbase hfew hline hs hplain
theorem call_len_seqK {K' : PySem.W.Frag} (hK : X.K = K') : CallR X (.builtin "len") (fun xs H Q => ∃ p ys, xs = [V.ref p] ∧ (SqL K' H p ys ∨ SqT K' H p ys) ∧ Q (.int ys.length) H) := by
  subst hK
  exact call_len_seq
theorem ix_listK {K' : PySem.W.Frag} (hK : X.K = K') : IxR X (rIxL K') := by
  subst hK
  exact ix_list
theorem op_in_seqK {K' : PySem.W.Frag} (hK : X.K = K') : OpR X (compareOp .In) (rIn K' false) := by
  subst hK
  exact op_in_seq
theorem op_notIn_seqK {K' : PySem.W.Frag} (hK : X.K = K') : OpR X (compareOp .NotIn) (rIn K' true) := by
  subst hK
  exact op_notIn_seq
theorem op_mul_str : OpR X (binaryOp .Mult) (fun x y H Q => ∃ a k, x = .str a ∧ y = .int k ∧ 0 ≤ k ∧ k ≤ 8 ∧ a.length ≤ 8 ∧ Q (.str (Txt.mul a k)) H) := by
  intro pins s σ H x y v u Q I rx ry h
  obtain ⟨a, k, rfl, rfl, h0, h1, hx, q⟩ := h
  obtain ⟨t, rfl⟩ := rx
  obtain ⟨t', rfl⟩ := ry
  exact SB.mul (mulOk_small h0 h1 hx) (fun t' tk => ⟨.str (Txt.mul a k), H, I.tok _, ⟨_, rfl⟩, q⟩)
end
end K2
end
section
set_option Elab.async false
set_option maxRecDepth 100000
set_option linter.all false
namespace K2
open PySem L2
theorem low_letters : ∀ c ∈ codes (Str.ofString "abcdefghijklmnopqrstuvwxyz"), 97 ≤ c ∧ c ≤ 122 := by decide +kernel
theorem at_letters : ∀ j, j < 26 → (codes (Str.ofString "abcdefghijklmnopqrstuvwxyz"))[j]? = some (97 + j) := by decide +kernel
theorem sum_ones : ∀ l : List Nat, (((l.map fun c => (⟨#[c]⟩ : Str)).map (·.length)).sum) = l.length
  | [] => rfl
  | c :: l => by
    rw [List.map_cons, List.map_cons, List.sum_cons, sum_ones l, List.length_cons]
    show 1 + l.length = l.length + 1
    omega
theorem if01 (c : Bool) : 0 ≤ (if c = true then (1 : Int) else 0) ∧ (if c = true then (1 : Int) else 0) ≤ 8 := by cases c <;> decide
theorem fin_q {W : Str} {b : List Nat} {spot f h i : Nat} (e : codes W = wordAt b spot (signAt f h i)) (hi : 26 ≤ i) : W ++ Str.ofString "q" = txt (finalAt b spot f h i) := by
  refine codes_inj ?_
  rw [codes_append, codes_txt, e]
  unfold finalAt
  dsimp only
  rw [if_pos hi]
  rfl
theorem fin_z {W : Str} {b : List Nat} {spot f h i : Nat} (e : codes W = wordAt b spot (signAt f h i)) (hi : ¬ 26 ≤ i) : W ++ Txt.mul (Str.ofString "z") (if W ∈ barred then 1 else 0) = txt (finalAt b spot f h i) := by
  refine codes_inj ?_
  have eW : txt (wordAt b spot (signAt f h i)) = W := by rw [← e, txt_codes]
  rw [codes_append, codes_txt, e]
  unfold finalAt
  dsimp only
  rw [if_neg hi, eW]
  congr 1
  by_cases hb : W ∈ barred
  · rw [if_pos hb, if_pos hb]
    decide +kernel
  · rw [if_neg hb, if_neg hb]
    decide +kernel
theorem finals_succ (b : List Nat) (spot f h i : Nat) : finals b spot f h (i + 1) = finals b spot f h i ++ [txt (finalAt b spot f h i)] := by
  unfold finals
  rw [List.range_succ, List.map_append]
  rfl
/-- a fresh list of m words -/
def spWords : Sp := fun vs H Q _ => ∃ (p c : Addr) (ns : List Int) (n m : Nat), vs = [.ref p, .int m] ∧ Pen H p c ns n ∧ n + 12 ≤ 100000 ∧ m ≤ 31 ∧
  ∀ (l : Addr) (ws : List Str) (H' : Hp), Words ws → ws.length = m → H' l = some (.lst (ws.map V.str)) → Keep p H H' → Pen H' p c ns (n + 12) → Q (.ref l) H'
abbrev nWords : List Str := ["_law_pen_here", "_law_many", "_law_letters", "_law_k", "_law_base", "_law_spot", "_law_first", "_law_hop", "_law_found", "_law_sign", "_law_word", "_law_more"]
section
variable {P : Program} {w : World} {K : PySem.W.Frag} {mg : Str → Option Value} {base : Heap}
theorem scWords : FnScope nWords ["_law_pen_here", "_law_many"] (defScope sWords) := ⟨rfl, rfl, rfl, by decide +kernel, rfl, by decide +kernel, by decide +kernel⟩
theorem ok_words {f fD fP fB : Addr} {fd fdD fdP fdB : FuncData} (F : Fun K "_law_words" "_law_words" sWords f fd) (T : Bi mg) (D : Df K mg "_law_draw" sDraw fD fdD ["_law_pen_here", "_law_many"]) (PK : Df K mg "_law_pick" sPick fP fdP ["_law_pen_here", "_law_some"])
    (BA : Df K mg "_law_barred" sBarred fB fdB []) : FnOk P w K mg base CX0 3 f fd ["_law_pen_here", "_law_many"] spWords := by
  have GD : FnOk P w K mg base CX0 1 fD fdD ["_law_pen_here", "_law_many"] spDraw := ok_draw D.F T
  have GP : FnOk P w K mg base CX0 2 fP fdP ["_law_pen_here", "_law_some"] spPick := ok_pick PK.F T D
  have GB : FnOk P w K mg base CX0 1 fB fdB [] spBarred := ok_barred BA.F
  refine F.ok scWords (fun vs H Q E h => ?_) (fun cdv A outer s H vs Q E hr h => ?_)
  · obtain ⟨p, c, ns, n, m, rfl, _⟩ := h
    rfl
  · obtain ⟨p, c, ns, n, m, rfl, hP, hn, hm, k⟩ := h
    have hr1 : Room 2 _ := hr
    have hr0 : Room 1 _ := hr.mono (by decide)
    refine ⟨_, (pss_cons (ps_set (i := 2) scWords.nd rfl (Or.inr rfl) pe_str)
      (pss_cons (ps_set (i := 4) scWords.nd rfl (Or.inl rfl) (pe_join pe_str (pe_lc (own := [("_law_k", 3)]) (g := gName 3) (tt := tYes) rfl scWords.nd (pi_range1 rfl T.range (pa_cons (pe_call GD hr0 (by rfl) D.m D.F.kp D.b .nil pass0 (pa_cons (pv 0) (pa_cons pe_int pa_nil))) pa_nil)) (blkOk_by (N := nWords) (sc := defScope sWords) (by decide +kernel)) (fun _ _ _ _ _ => pg_name (i := 3) scWords.nd rfl (Or.inl rfl)) (fun _ _ _ _ _ => pts_nil) (fun _ _ _ _ _ => pe_call GP hr1 (by rfl) PK.m PK.F.kp PK.b .nil pass0 (pa_cons (pv 0) (pa_cons (pv 2) pa_nil))))))
      (pss_cons (ps_set (i := 4) scWords.nd rfl (Or.inl rfl) (pe_call GP hr1 (by rfl) PK.m PK.F.kp PK.b .nil pass0 (pa_cons (pv 0) (pa_cons (pe_lst (pa_cons (pv 4) (pa_cons (pv 4) (pa_cons (pv 4) (pa_cons pe_str (pa_cons pe_str (pa_cons pe_str pa_nil))))))) pa_nil))))
      (pss_cons (ps_set (i := 5) scWords.nd rfl (Or.inl rfl) (pe_call GD hr0 (by rfl) D.m D.F.kp D.b .nil pass0 (pa_cons (pv 0) (pa_cons (pe_op op_add (pe_callB call_len_str (by rfl) T.len PySem.boot_len (pa_cons (pv 4) pa_nil)) pe_int) pa_nil))))
      (pss_cons (ps_set (i := 6) scWords.nd rfl (Or.inl rfl) (pe_call GD hr0 (by rfl) D.m D.F.kp D.b .nil pass0 (pa_cons (pv 0) (pa_cons pe_int pa_nil))))
      (pss_cons (ps_set (i := 7) scWords.nd rfl (Or.inl rfl) (pe_call GP hr1 (by rfl) PK.m PK.F.kp PK.b .nil pass0 (pa_cons (pv 0) (pa_cons (pe_lst (pa_cons pe_int (pa_cons pe_int (pa_cons pe_int (pa_cons pe_int (pa_cons pe_int (pa_cons pe_int pa_nil))))))) pa_nil))))
      (pss_cons (ps_set (i := 8) scWords.nd rfl (Or.inl rfl) (pe_lst pa_nil))
      (pss_cons (ps_for PassesOwn.never rfl (pi_range1 rfl T.range (pa_cons (pv 1) pa_nil)) (pg_name (i := 3) scWords.nd rfl (Or.inl rfl))
      (pss_cons (ps_set (i := 9) scWords.nd rfl (Or.inl rfl) (pe_ix ix_str (pv 2) (pe_op op_modN (pe_callTy call_int1 (by rfl) T.int (by decide +kernel) (pa_cons (pe_op op_add (pv 6) (pe_op op_mul (pv 7) (pv 3))) pa_nil)) pe_int) (fun _ _ => rfl)))
        (pss_cons (ps_set (i := 10) scWords.nd rfl (Or.inl rfl) (pe_op op_add_str (pe_op op_add_str (pe_slice sl_str (pv 4) po_none (po_some (pv 5))) (pv 9)) (pe_slice sl_str (pv 4) (po_some (pv 5)) po_none)))
        (pss_cons (ps_set (i := 11) scWords.nd rfl (Or.inl rfl) (pe_op op_mul_str pe_str (pe_callTy call_int1 (by rfl) T.int (by decide +kernel) (pa_cons (pe_cmpR op_in_seq (pv 10) (pe_call0 GB hr0 (by rfl) BA.m BA.F.kp BA.b .nil pass0) rfl) pa_nil))))
        (pss_one (ps_expr (pe_bm PySem.F.plainAttrs_list PySem.F.slot_list_append PySem.F.type_list_append mt_append (pv 8) (pa_cons (pe_op op_add_str (pv 10) (pe_ifExp (pt_cmpR op_ge (pv 3) pe_int (nomark _)) pe_str (pv 11))) pa_nil))))))))
      (pss_one (ps_ret (pv 8))))))))))), ?_⟩
    -- letters; the first base
    refine ⟨⟨_, rfl⟩, _, rfl, p, c, ns, n, 7, rfl, hP, by omega, by decide, by decide, fun v1 H1 v10 v11 k1 P1 => ?_⟩
    obtain ⟨q1, rfl⟩ : ∃ j : Nat, v1 = (j : Int) := ⟨v1.toNat, (Int.toNat_of_nonneg v10).symm⟩
    refine ⟨_, rfl, by omega, by omega, fun D1 hD1 => ?_⟩
    have hD1H : H D1 = none := k1.fresh P1 hD1
    have hpD := P1.pne hD1
    have hcD := P1.cne hD1
    refine lc_range (lo := 0) (n := q1) (fun i Hc => ∃ ys : List Nat, Low ys ∧ ys.length = i ∧ Hc D1 = some (.lst ((ys.map fun c => (⟨#[c]⟩ : Str)).map V.str)) ∧ Keep p H Hc ∧ Pen Hc p c ns (n + 1 + i)) ?_ ?_ ?_
    · refine ⟨[], fun _ h => (by cases h), rfl, upd_same, k1.new hD1H, P1.new hD1⟩
    · rintro i Hc hi ⟨ys, hys, hyl, hD, kc, Pc⟩
      have hDp : D1 ≠ p := hpD.symm
      refine ⟨rfl, _, rfl, _, rfl, p, c, ns, n + 1 + i, _, _, rfl, Pc, by omega, .inr (.inl ⟨_, rfl, rfl, by decide +kernel⟩), by decide +kernel, by decide +kernel, fun j v Hd hv kd Pd => ?_⟩
      rw [List.getElem?_map] at hv
      cases hc : (codes (Str.ofString "abcdefghijklmnopqrstuvwxyz"))[j]? with
      | none => rw [hc] at hv; cases hv
      | some ch =>
        rw [hc] at hv
        cases hv
        have hch := low_letters ch (List.mem_of_getElem? hc)
        refine ⟨_, kd D1 _ hD hDp, ?_, ys ++ [ch], ?_, ?_, ?_, ?_, ?_⟩
        · rw [List.length_map, List.length_map, hyl]
          have : sizeLine = 16777216 := rfl
          omega
        · intro d hd
          rcases List.mem_append.mp hd with hd | hd
          · exact hys d hd
          · have : d = ch := by simpa using hd
            omega
        · rw [List.length_append, hyl]
          rfl
        · rw [upd_same, List.map_append, List.map_append]
          rfl
        · exact (kc.trans kd).new hD1H
        · exact Pd.upd' hpD hcD
    · -- the join, the first pick
      rintro Hj ⟨ys, hys, hyl, hD, kj, Pj⟩
      refine ⟨Str.empty, D1, ys.map fun c => (⟨#[c]⟩ : Str), rfl, rfl, .inl (SqL.of hD), ?_, ?_⟩
      · rw [sum_ones, List.length_map]
        show ys.length + ys.length * 0 ≤ 16777216
        omega
      have hb0 := join_ones ys
      generalize Txt.join Str.empty (ys.map fun c => (⟨#[c]⟩ : Str)) = b0 at hb0
      refine ⟨_, rfl, _, rfl, _, rfl, _, rfl, (by show 6 ≤ sizeLine; decide), fun l6 h6 => ?_⟩
      refine ⟨p, c, ns, n + 1 + q1, _, _, rfl, Pj.new h6, by omega, .inl ⟨l6, rfl, (Pj.pne h6).symm, upd_same⟩, by simp, (by show 6 ≤ 1000; decide), fun j6 v6 H2 hv6 k2 P2 => ?_⟩
      obtain ⟨b, rfl, hbl, hb6⟩ : ∃ b : Str, v6 = .str b ∧ Low (codes b) ∧ (codes b).length ≤ 6 := by
        have hm6 := List.mem_of_getElem? hv6
        have l0 : Low (codes b0) ∧ (codes b0).length ≤ 6 := by rw [hb0]; exact ⟨hys, by omega⟩
        simp only [List.mem_cons, List.not_mem_nil, or_false] at hm6
        rcases hm6 with rfl | rfl | rfl | rfl | rfl | rfl
        · exact ⟨_, rfl, l0⟩
        · exact ⟨_, rfl, l0⟩
        · exact ⟨_, rfl, l0⟩
        · exact ⟨_, rfl, by unfold Low; decide +kernel, by decide +kernel⟩
        · exact ⟨_, rfl, by unfold Low; decide +kernel, by decide +kernel⟩
        · exact ⟨_, rfl, by unfold Low; decide +kernel, by decide +kernel⟩
      have k2' : Keep p H H2 := (kj.new (kj.fresh Pj h6)).trans k2
      -- spot
      refine ⟨_, rfl, _, rfl, _, rfl, (by rw [len_codes]; show _ ≤ 16777216; omega), _, _, rfl, rfl, p, c, ns, n + 1 + q1 + 1, _, rfl, P2, by omega, by omega, by rw [len_codes]; omega, fun vs H3 s0 s1 k3 P3 => ?_⟩
      obtain ⟨spot, rfl⟩ : ∃ j : Nat, vs = (j : Int) := ⟨vs.toNat, (Int.toNat_of_nonneg s0).symm⟩
      have hspot : spot ≤ (codes b).length := by rw [len_codes] at s1; omega
      have k3' := k2'.trans k3
      -- first
      refine ⟨_, rfl, p, c, ns, n + 1 + q1 + 1 + 1, _, rfl, P3, by omega, by decide, by decide, fun vf H4 f0 f1 k4 P4 => ?_⟩
      obtain ⟨fst, rfl⟩ : ∃ j : Nat, vf = (j : Int) := ⟨vf.toNat, (Int.toNat_of_nonneg f0).symm⟩
      have k4' := k3'.trans k4
      -- hop
      refine ⟨_, rfl, (by show 6 ≤ sizeLine; decide), fun lh hlh => ?_⟩
      refine ⟨p, c, ns, n + 1 + q1 + 1 + 1 + 1, _, _, rfl, P4.new hlh, by omega, .inl ⟨lh, rfl, (P4.pne hlh).symm, upd_same⟩, by simp, (by show 6 ≤ 1000; decide), fun jh vh H5 hvh k5 P5 => ?_⟩
      obtain ⟨hop, rfl, hhop⟩ : ∃ h : Nat, vh = .int (h : Int) ∧ h ∈ [1, 3, 5, 7, 9, 11] := by
        have hm6 := List.mem_of_getElem? hvh
        simp only [List.mem_cons, List.not_mem_nil, or_false] at hm6
        rcases hm6 with rfl | rfl | rfl | rfl | rfl | rfl
        · exact ⟨1, rfl, by simp⟩
        · exact ⟨3, rfl, by simp⟩
        · exact ⟨5, rfl, by simp⟩
        · exact ⟨7, rfl, by simp⟩
        · exact ⟨9, rfl, by simp⟩
        · exact ⟨11, rfl, by simp⟩
      have k5' : Keep p H H5 := (k4'.new (k4'.fresh P4 hlh)).trans k5
      -- found = []
      refine ⟨Nat.zero_le _, fun l hl => ?_⟩
      have hlH : H l = none := k5'.fresh P5 hl
      have hpl := P5.pne hl
      have hcl := P5.cne hl
      have hb11 : hop ≤ 11 := by
        simp only [List.mem_cons, List.not_mem_nil, or_false] at hhop
        omega
      refine ⟨_, rfl, _, rfl, by omega, by omega, for_range (lo := 0) (n := m) (fun i σ Hc => ∃ v3 v9 v10 v11 : Option V, σ = [some (.ref p), some (.int m), some (.str (Str.ofString "abcdefghijklmnopqrstuvwxyz")), v3, some (.str b), some (.int spot), some (.int fst), some (.int hop), some (.ref l), v9, v10, v11] ∧
        Hc l = some (.lst ((finals (codes b) spot fst hop i).map V.str)) ∧ Keep p H Hc ∧ Pen Hc p c ns (n + 12)) ?_ ?_ ?_⟩
      · refine ⟨_, _, _, _, rfl, upd_same, k5'.new hlH, (P5.new hl).mono (by omega)⟩
      · rintro i σ Hc hi ⟨v3, v9, v10, v11, rfl, hL, kc, Pc⟩
        have eN : ((fst : Int) + (hop : Int) * (0 + (i : Int))).fmod 26 = (((fst + hop * i) % 26 : Nat) : Int) := by
          rw [Int.zero_add, Int.fmod_eq_emod_of_nonneg _ (by decide)]
          have : ((fst : Int) + (hop : Int) * (i : Int)) = ((fst + hop * i : Nat) : Int) := by
            rw [Int.natCast_add, Int.natCast_mul]
          rw [this]
          rfl
        have hlt : (fst + hop * i) % 26 < 26 := Nat.mod_lt _ (by decide)
        refine ⟨_, rfl, _, rfl, _, rfl, _, rfl, _, _, rfl, rfl, .inl ⟨by omega, by omega⟩, _, _, rfl, rfl, .inl ⟨_, rfl, _, _, rfl, rfl, (by show (26 : Int) ≠ 0; decide), _, _, _, rfl, rfl, by decide +kernel, (by rw [eN]; exact atI_nat (at_letters _ hlt)), ?_⟩⟩
        have lc1 := len_codes b
        refine ⟨_, rfl, _, rfl, _, rfl, _, rfl, ?_, _, rfl, _, _, rfl, rfl, ?_, _, rfl, _, rfl, _, rfl, _, rfl, ?_, _, _, rfl, rfl, ?_, ?_⟩
        · rw [lc1]; show _ ≤ 16777216; omega
        · rw [len_codes (cutS b none (some (spot : Int))), cut_to hspot, List.length_take]; show _ + 1 ≤ 16777216; omega
        · rw [lc1]; show _ ≤ 16777216; omega
        · rw [len_codes (cutS b none (some (spot : Int)) ++ _), codes_append, cut_to hspot, len_codes (cutS b _ none), cut_from hspot, List.length_append, List.length_take, List.length_drop]
          show _ + 1 + _ ≤ 16777216
          omega
        have hW : codes (cutS b none (some (spot : Int)) ++ (⟨#[97 + (fst + hop * i) % 26]⟩ : Str) ++ cutS b (some (spot : Int)) none) = wordAt (codes b) spot (signAt fst hop i) := by
          rw [codes_append, codes_append, cut_to hspot, cut_from hspot]
          rfl
        generalize cutS b none (some (spot : Int)) ++ (⟨#[97 + (fst + hop * i) % 26]⟩ : Str) ++ cutS b (some (spot : Int)) none = W at hW ⊢
        refine ⟨_, rfl, rfl, fun lb hlb => ⟨lb, _, rfl, .inl (SqL.of upd_same), rfl, flat_strs _, .inr ⟨_, rfl, _, _, rfl, rfl, ?_, ?_, by decide +kernel, ?_⟩⟩⟩
        · exact (if01 _).1
        · exact (if01 _).2
        have hz : (if (if false = true then !inV (V.str W) (barred.map V.str) else inV (V.str W) (barred.map V.str)) = true then (1 : Int) else 0) = (if W ∈ barred then 1 else 0) := by
          rw [if_neg Bool.false_ne_true, inV_strs]
          by_cases hb : W ∈ barred
          · rw [if_pos hb, if_pos (by simpa using hb)]
          · rw [if_neg hb, if_neg (by simpa using hb)]
        have hlbH : H lb = none := kc.fresh Pc hlb
        have hll : l ≠ lb := ne_of_none hL hlb
        have hL2 : (upd Hc lb (.lst (barred.map V.str))) l = some (.lst ((finals (codes b) spot fst hop i).map V.str)) := by rw [upd_ne hll]; exact hL
        have kc2 : Keep p H (upd Hc lb (.lst (barred.map V.str))) := kc.new hlbH
        have Pc2 := Pc.new (o := .lst (barred.map V.str)) hlb
        have fin : ∀ x : Str, x = txt (finalAt (codes b) spot fst hop i) → (upd (upd Hc lb (.lst (barred.map V.str))) l (.lst ((finals (codes b) spot fst hop i).map V.str ++ [V.str x]))) l = some (.lst ((finals (codes b) spot fst hop (i + 1)).map V.str)) := fun x hx => by
          rw [upd_same, finals_succ, List.map_append, hx]
          rfl
        have fsz : (finals (codes b) spot fst hop i).length = i := by simp [finals]
        have lW : W.length = (codes b).length + 1 := by rw [len_codes, hW, len_wordAt]
        refine ⟨_, rfl, .inl ⟨rfl, _, SqL.of hL2⟩, _, rfl, _, rfl, _, _, rfl, rfl, _, rfl, ite2 (fun hg => ?_) (fun hg => ?_)⟩
        · have hg := of_decide_eq_true hg
          have hi26 : 26 ≤ i := by omega
          refine ⟨_, _, rfl, rfl, ?_, l, _, _, rfl, rfl, hL2, ?_, ?_⟩
          · rw [lW]; show _ + 1 ≤ 16777216; omega
          · rw [List.length_map, fsz]; show _ < 16777216; omega
          · exact ⟨_, _, _, _, rfl, fin _ (fin_q hW hi26), kc2.new hlH, Pc2.upd' hpl hcl⟩
        · have hi26 : ¬ 26 ≤ i := fun h => hg (decide_eq_true (by omega))
          refine ⟨_, rfl, _, _, rfl, rfl, ?_, l, _, _, rfl, rfl, hL2, ?_, ?_⟩
          · rw [hz, lW]
            have : (Txt.mul (Str.ofString "z") (if W ∈ barred then 1 else 0)).length ≤ 1 := by
              by_cases hb : W ∈ barred
              · rw [if_pos hb]; decide +kernel
              · rw [if_neg hb]; decide +kernel
            show _ ≤ 16777216
            omega
          · rw [List.length_map, fsz]; show _ < 16777216; omega
          · refine ⟨_, _, _, _, rfl, fin _ ?_, kc2.new hlH, Pc2.upd' hpl hcl⟩
            rw [hz]
            exact fin_z hW hi26
      · rintro σ Hc ⟨v3, v9, v10, v11, rfl, hL, kc, Pc⟩
        refine ⟨_, rfl, ?_⟩
        exact k l _ Hc (words_finals hbl hb6 hhop (by omega) spot fst) (by simp [finals]) hL kc Pc
end
end K2
end
section
set_option Elab.async false
set_option maxRecDepth 100000
set_option linter.all false
namespace K2
open PySem L2
abbrev sBegun : Stmt := top 32
theorem mul8 (ch : Nat) : Txt.mul (⟨#[ch]⟩ : Str) 8 = txt (List.replicate 8 ch) := by rfl
theorem cut_rep {ch k : Nat} (h : k < 8) : cutS (txt (List.replicate 8 ch)) none (some ((0 + (k : Int)) + 1)) = txt (List.replicate (k + 1) ch) := by
  refine codes_inj ?_
  have e : (0 + (k : Int)) + 1 = ((k + 1 : Nat) : Int) := by omega
  rw [e, cut_to (by rw [codes_txt, List.length_replicate]; omega), codes_txt, codes_txt, List.take_replicate]
  congr 1
  omega
theorem cut_first {x : Str} (h : VW x) : ∃ ch, 97 ≤ ch ∧ ch ≤ 122 ∧ cutS x none (some 1) = ⟨#[ch]⟩ := by
  have hne := h.ne
  cases hc : codes x with
  | nil => exact absurd hc hne
  | cons ch r =>
    have hl := h.low ch (by rw [hc]; simp)
    refine ⟨ch, hl.1, hl.2, codes_inj ?_⟩
    rw [show (1 : Int) = ((1 : Nat) : Int) from rfl, cut_to (by rw [hc]; simp), hc]
    rfl
theorem reps_succ (ch i : Nat) : reps ch (i + 1) = reps ch i ++ [txt (List.replicate (i + 1) ch)] := by
  unfold reps
  rw [List.range_succ, List.map_append]
  rfl
def spBegun : Sp := fun vs H Q _ => ∃ (p c : Addr) (ns : List Int) (n m : Nat), vs = [.ref p, .int m] ∧ Pen H p c ns n ∧ n + 14 ≤ 100000 ∧ m ≤ 31 ∧
  ∀ (l : Addr) (ws : List Str) (H' : Hp), Words ws → ws.length = m → H' l = some (.lst (ws.map V.str)) → Keep p H H' → Pen H' p c ns (n + 14) → Q (.ref l) H'
abbrev nBegun : List Str := ["_law_pen_here", "_law_many", "_law_found", "_law_whole", "_law_some", "_law_k"]
section
variable {P : Program} {w : World} {K : PySem.W.Frag} {mg : Str → Option Value} {base : Heap}
theorem scBegun : FnScope nBegun ["_law_pen_here", "_law_many"] (defScope sBegun) := ⟨rfl, rfl, rfl, by decide +kernel, rfl, by decide +kernel, by decide +kernel⟩
theorem ok_begun {f fD fW : Addr} {fd fdD fdW : FuncData} (F : Fun K "_law_begun" "_law_begun" sBegun f fd) (T : Bi mg) (D : Df K mg "_law_draw" sDraw fD fdD ["_law_pen_here", "_law_many"]) (WO : Df K mg "_law_words" sWords fW fdW ["_law_pen_here", "_law_many"])
    (GW : FnOk P w K mg base CX0 3 fW fdW ["_law_pen_here", "_law_many"] spWords) : FnOk P w K mg base CX0 4 f fd ["_law_pen_here", "_law_many"] spBegun := by
  have GD : FnOk P w K mg base CX0 1 fD fdD ["_law_pen_here", "_law_many"] spDraw := ok_draw D.F T
  refine F.ok scBegun (fun vs H Q E h => ?_) (fun cdv A outer s H vs Q E hr h => ?_)
  · obtain ⟨p, c, ns, n, m, rfl, _⟩ := h
    rfl
  · obtain ⟨p, c, ns, n, m, rfl, hP, hn, hm, k⟩ := h
    have hr2 : Room 3 _ := hr
    have hr0 : Room 1 _ := hr.mono (by decide)
    refine ⟨_, (pss_cons (ps_set (i := 2) scBegun.nd rfl (Or.inl rfl) (pe_call GW hr2 (by rfl) WO.m WO.F.kp WO.b .nil pass0 (pa_cons (pv 0) (pa_cons (pv 1) pa_nil))))
      (pss_cons (ps_if (PW.pt (pw_or (pt_cmpR op_eq (pv 1) pe_int (nomark _)) (pw_or (pt_cmpR op_gt (pv 1) pe_int (nomark _)) (pw_or1 (pt_cmpR op_gt (pe_call GD hr0 (by rfl) D.m D.F.kp D.b .nil pass0 (pa_cons (pv 0) (pa_cons pe_int pa_nil))) pe_int (nomark _))))))
      (pss_one (ps_ret (pv 2)))
      pss_nil)
      (pss_cons (ps_set (i := 3) scBegun.nd rfl (Or.inr rfl) (pe_op op_mul_str (pe_slice sl_str (pe_ix ix_list (pv 2) pe_int (fun _ _ => rfl)) po_none (po_some pe_int)) pe_int))
      (pss_cons (ps_setLc (i := 4) (own := [("_law_k", 5)]) (g := gName 5) (tt := tYes) rfl scBegun.nd rfl rfl (sw_true rfl rfl rfl (by decide +kernel)) (pi_range1 rfl T.range (pa_cons (pv 1) pa_nil)) (blkOk_by (N := nBegun) (sc := defScope sBegun) (by decide +kernel)) (fun _ _ _ _ _ => pg_name (i := 5) scBegun.nd rfl (Or.inl rfl)) (fun _ _ _ _ _ => pts_nil) (fun _ _ _ _ _ => pe_slice sl_str (pv 3) po_none (po_some (pe_op op_add (pv 5) pe_int))))
      (pss_one (ps_ret (pe_ifExp (pt_cmpR op_eq (pe_call GD hr0 (by rfl) D.m D.F.kp D.b .nil pass0 (pa_cons (pv 0) (pa_cons pe_int pa_nil))) pe_int (nomark _)) (pv 4) (pe_revL (pv 4))))))))), ?_⟩
    refine ⟨_, rfl, _, rfl, p, c, ns, n, m, rfl, hP, by omega, hm, fun l ws H1 hw hwl hl k1 P1 => ?_⟩
    have give : ∀ H2 : Hp, Keep p H1 H2 → Pen H2 p c ns (n + 12 + 1) → Q (.ref l) H2 := fun H2 k2 P2 =>
      k l ws H2 hw hwl (k2 l _ hl (P1.strs_ne hl)) (k1.trans k2) (P2.mono (by omega))
    refine ⟨_, rfl, rfl, _, rfl, ite2 (fun h0 => ?_) (fun h0 => ?_)⟩
    · exact ⟨_, rfl, give H1 (Keep.refl _ _) (P1.mono (by omega))⟩
    refine ⟨_, rfl, _, _, rfl, rfl, _, rfl, ite2 (fun h1 => ?_) (fun h1 => ?_)⟩
    · exact ⟨_, rfl, give H1 (Keep.refl _ _) (P1.mono (by omega))⟩
    refine ⟨_, rfl, p, c, ns, n + 12, _, rfl, P1, by omega, by decide, by decide, fun v H2 v0 v1 k2 P2 => ?_⟩
    refine ⟨_, _, rfl, rfl, _, rfl, ite2 (fun h2 => ?_) (fun h2 => ?_)⟩
    · exact ⟨_, rfl, give H2 k2 P2⟩
    have m0 : 0 < m := by
      have : ¬ (V.int (m : Int) = V.int 0) := fun e => h0 (decide_eq_true e)
      rcases Nat.eq_zero_or_pos m with e | e
      · exact absurd (by rw [e]; rfl) this
      · exact e
    have m8 : m ≤ 8 := by
      have : ¬ (8 < (m : Int)) := fun e => h1 (decide_eq_true e)
      omega
    have hl2 := k2 l _ hl (P1.strs_ne hl)
    have k2' := k1.trans k2
    have h00 : ws[0]? = some ws[0] := List.getElem?_eq_getElem (by omega)
    obtain ⟨ch, c1, c2, hcut⟩ := cut_first (hw.vw ws[0] (List.getElem_mem _))
    have hvw := hw.vw ws[0] (List.getElem_mem _)
    refine ⟨_, rfl, l, _, _, _, rfl, rfl, SqL.of hl2, atI_nat (j := 0) (by rw [List.getElem?_map, h00]; rfl), _, rfl, _, rfl, ?_, _, _, rfl, rfl, by decide, by decide, ?_, ?_⟩
    · rw [len_codes]; have := hvw.le; show _ ≤ 16777216; omega
    · rw [hcut]; show 1 ≤ 8; decide
    rw [hcut, mul8]
    refine ⟨_, rfl, _, rfl, by omega, by omega, fun D1 hD1 => ?_⟩
    have hD1H : H D1 = none := k2'.fresh P2 hD1
    have hpD := P2.pne hD1
    have hcD := P2.cne hD1
    refine lc_range (lo := 0) (n := m) (fun i Hc => Hc D1 = some (.lst ((reps ch i).map V.str)) ∧ Keep p H Hc ∧ Pen Hc p c ns (n + 13)) ?_ ?_ ?_
    · exact ⟨upd_same, k2'.new hD1H, (P2.new hD1).mono (by omega)⟩
    · rintro i Hc hi ⟨hD, kc, Pc⟩
      refine ⟨rfl, _, rfl, _, rfl, _, _, rfl, rfl, _, rfl, _, rfl, ?_, _, hD, ?_, ?_, ?_, ?_⟩
      · rw [len_codes, codes_txt, List.length_replicate]; decide
      · rw [List.length_map]; simp [reps]; show _ < 16777216; omega
      · rw [upd_same, cut_rep (by omega), reps_succ, List.map_append]
        rfl
      · exact kc.new hD1H
      · exact Pc.upd' hpD hcD
    · rintro Hj ⟨hD, kj, Pj⟩
      refine ⟨_, rfl, p, c, ns, n + 13, _, rfl, Pj, by omega, by decide, by decide, fun v3 H3 v30 v31 k3 P3 => ?_⟩
      have hD3 := k3 D1 _ hD hpD.symm
      have rl : (reps ch m).length = m := by simp [reps]
      refine ⟨rfl, _, rfl, ite2 (fun hq => ?_) (fun hq => ?_)⟩
      · exact ⟨_, rfl, k D1 _ H3 (words_reps c1 c2 m8) rl hD3 (kj.trans k3) (P3.mono (by omega))⟩
      · refine ⟨_, rfl, D1, _, rfl, SqL.of hD3, fun r hr' => ?_⟩
        refine k r _ _ (words_reps c1 c2 m8).rev (by rw [List.length_reverse]; exact rl) (by rw [upd_same, List.map_reverse]) ((kj.trans k3).new ((kj.trans k3).fresh P3 hr')) ((P3.new hr').mono (by omega))
end
end K2
end
section
set_option Elab.async false
set_option maxRecDepth 100000
set_option linter.all false
namespace K2
open PySem L2
abbrev sMixed : Stmt := top 33
abbrev sRow : Stmt := top 34
abbrev sRows : Stmt := top 35

theorem perm_erase {α : Type} : ∀ (l : List α) (k : Nat) (h : k < l.length), ([l[k]] ++ l.eraseIdx k).Perm l
  | [], k, h => absurd h (Nat.not_lt_zero _)
  | a :: l, 0, h => List.Perm.refl _
  | a :: l, k + 1, h => by
    have ih := perm_erase l k (Nat.lt_of_succ_lt_succ h)
    show (l[k]'(Nat.lt_of_succ_lt_succ h) :: (a :: l.eraseIdx k)).Perm (a :: l)
    exact (List.Perm.swap a _ _).trans (List.Perm.cons a ih)
theorem map_erase {α β : Type} (f : α → β) : ∀ (l : List α) (k : Nat), (l.map f).eraseIdx k = (l.eraseIdx k).map f
  | [], k => by simp
  | a :: l, 0 => rfl
  | a :: l, k + 1 => by
    show f a :: (l.map f).eraseIdx k = f a :: (l.eraseIdx k).map f
    rw [map_erase f l k]
def spMixed : Sp := fun vs H Q _ => ∃ (p c y : Addr) (ns : List Int) (n : Nat) (xs : List Str), vs = [.ref p, .ref y] ∧ Pen H p c ns n ∧ n + 40 ≤ 100000 ∧ H y = some (.lst (xs.map V.str)) ∧ xs.length ≤ 33 ∧
  ∀ (l : Addr) (ys : List Str) (H' : Hp), ys.Perm xs → H' l = some (.lst (ys.map V.str)) → Keep p H H' → Pen H' p c ns (n + xs.length) → Q (.ref l) H'
abbrev nMixed : List Str := ["_law_pen_here", "_law_some", "_law_left", "_law_k"]
section
variable {P : Program} {w : World} {K : PySem.W.Frag} {mg : Str → Option Value} {base : Heap}
theorem scMixed : FnScope nMixed ["_law_pen_here", "_law_some"] (defScope sMixed) := ⟨rfl, rfl, rfl, by decide +kernel, rfl, by decide +kernel, by decide +kernel⟩
theorem mt_popAtR (X : Cx) : MtR X "list.pop" rPopAt := mt_popAt
theorem six {k n : Nat} (h : k < n) : seqIndex? (k : Int) n = some k := by
  unfold seqIndex?
  simp
  omega
theorem ok_mixed {f fD : Addr} {fd fdD : FuncData} (F : Fun K "_law_mixed" "_law_mixed" sMixed f fd) (T : Bi mg) (D : Df K mg "_law_draw" sDraw fD fdD ["_law_pen_here", "_law_many"]) :
    FnOk P w K mg base CX0 2 f fd ["_law_pen_here", "_law_some"] spMixed := by
  have GD : FnOk P w K mg base CX0 1 fD fdD ["_law_pen_here", "_law_many"] spDraw := ok_draw D.F T
  refine F.ok scMixed (fun vs H Q E h => ?_) (fun cdv A outer s H vs Q E hr h => ?_)
  · obtain ⟨p, c, y, ns, n, xs, rfl, _⟩ := h
    rfl
  · obtain ⟨p, c, y, ns, n, xs, rfl, hP, hn, hy, hx, k⟩ := h
    have hr0 : Room 1 _ := hr
    refine ⟨_, (pss_cons (ps_set (i := 2) scMixed.nd rfl (Or.inr rfl) (pe_callTy call_list_of (by rfl) T.list (by decide +kernel) (pa_cons (pv 1) pa_nil)))
      (pss_one (ps_ret (pe_lc (own := [("_law_k", 3)]) (g := gName 3) (tt := tYes) rfl scMixed.nd (pi_range1 rfl T.range (pa_cons (pe_callB call_len_seq (by rfl) T.len PySem.boot_len (pa_cons (pv 2) pa_nil)) pa_nil)) (blkOk_by (N := nMixed) (sc := defScope sMixed) (by decide +kernel)) (fun _ _ _ _ _ => pg_name (i := 3) scMixed.nd rfl (Or.inl rfl)) (fun _ _ _ _ _ => pts_nil) (fun _ _ _ _ _ => pe_bmK (K' := K) rfl PySem.F.plainAttrs_list PySem.F.slot_list_pop PySem.F.type_list_pop (mt_popAtR _) (pv 2) (pa_cons (pe_call GD hr0 (by rfl) D.m D.F.kp D.b .nil pass0 (pa_cons (pv 0) (pa_cons (pe_callB (call_len_seqK (K' := K) rfl) (by rfl) T.len PySem.boot_len (pa_cons (pv 2) pa_nil)) pa_nil))) pa_nil)))))), ?_⟩
    refine ⟨_, rfl, y, _, rfl, .inl (SqL.of hy), fun L hL => ?_⟩
    have hLp := hP.pne hL
    have hLc := hP.cne hL
    refine ⟨_, rfl, L, _, rfl, .inl (SqL.of upd_same), _, rfl, ?_, ?_, fun D1 hD1 => ?_⟩
    · rw [List.length_map]; omega
    · rw [List.length_map]; omega
    have hne : L ≠ D1 := fun e => by rw [← e, upd_same] at hD1; cases hD1
    have hD0 : H D1 = none := by rw [upd_ne hne.symm] at hD1; exact hD1
    have hDp := hP.pne hD0
    have hDc := hP.cne hD0
    refine lc_range (lo := 0) (n := (xs.map V.str).length) (fun i Hc => ∃ acc left : List Str, (acc ++ left).Perm xs ∧ acc.length = i ∧ Hc D1 = some (.lst (acc.map V.str)) ∧ Hc L = some (.lst (left.map V.str)) ∧ Keep p H Hc ∧ Pen Hc p c ns (n + i)) ?_ ?_ ?_
    · exact ⟨[], xs, List.Perm.refl _, rfl, upd_same, by rw [upd_ne hne, upd_same], ((Keep.refl p H).new hL).new hD0, (hP.new hL).new hD1⟩
    · rintro i Hc hi ⟨acc, left, hp, hl, hD, hLh, kc, Pc⟩
      have hlen : acc.length + left.length = xs.length := by rw [← List.length_append]; exact hp.length_eq
      rw [List.length_map] at hi
      refine ⟨rfl, _, rfl, .inl ⟨rfl, _, SqL.of hLh⟩, _, rfl, _, rfl, L, _, rfl, .inl (SqL.of hLh), p, c, ns, n + i, _, rfl, Pc, by omega, ?_, ?_, fun v Hd v0 v1 kd Pd => ?_⟩
      · rw [List.length_map]; omega
      · rw [List.length_map]; omega
      rw [List.length_map] at v1
      obtain ⟨j, rfl⟩ : ∃ j : Nat, v = (j : Int) := ⟨v.toNat, (Int.toNat_of_nonneg v0).symm⟩
      have hj : j < left.length := by omega
      have hLd := kd L _ hLh hLp.symm
      have hDd := kd D1 _ hD hDp.symm
      refine ⟨L, _, _, j, V.str left[j], rfl, rfl, hLd, by omega, by omega, six (by rw [List.length_map]; exact hj), by rw [List.getElem?_map, List.getElem?_eq_getElem hj]; rfl, acc.map V.str, by rw [upd_ne hne.symm]; exact hDd, ?_, acc ++ [left[j]], left.eraseIdx j, ?_, ?_, ?_, ?_, ?_, ?_⟩
      · rw [List.length_map]; show _ < 16777216; omega
      · refine List.Perm.trans ?_ hp
        rw [List.append_assoc]
        exact List.Perm.append_left acc (perm_erase left j hj)
      · rw [List.length_append, hl]; rfl
      · rw [upd_same, List.map_append]; rfl
      · rw [upd_ne hne, upd_same, map_erase]
      · exact ((kc.trans kd).new hL).new hD0
      · exact (Pd.upd' hLp hLc).upd' hDp hDc
    · rintro Hj ⟨acc, left, hp, hl, hD, hLh, kj, Pj⟩
      have hlen : acc.length + left.length = xs.length := by rw [← List.length_append]; exact hp.length_eq
      rw [List.length_map] at hl Pj
      have hn0 : left = [] := List.length_eq_zero_iff.mp (by omega)
      subst hn0
      rw [List.append_nil] at hp
      exact k D1 acc Hj hp hD kj Pj
/-- a row of the heap -/
def rowO (r : Row) : HO := .tup ((r.1 :: r.2).map V.str)
def RowsAt (H : Hp) (ts : List Addr) (rs : List Row) : Prop := ts.length = rs.length ∧ ∀ (i : Nat) (t : Addr) (r : Row), ts[i]? = some t → rs[i]? = some r → H t = some (rowO r)
theorem RowsAt.mono {H H' : Hp} {ts : List Addr} {rs : List Row} (h : RowsAt H ts rs) (k : ∀ b r, H b = some (rowO r) → H' b = some (rowO r)) : RowsAt H' ts rs := ⟨h.1, fun i t r a b => k t r (h.2 i t r a b)⟩
theorem rowsAt_nil (H : Hp) : RowsAt H [] [] := ⟨rfl, fun i t r a => by simp at a⟩
theorem RowsAt.snoc {H : Hp} {ts : List Addr} {rs : List Row} {t : Addr} {r : Row} (h : RowsAt H ts rs) (ht : H t = some (rowO r)) : RowsAt H (ts ++ [t]) (rs ++ [r]) := by
  refine ⟨by simp [h.1], fun i u q a b => ?_⟩
  by_cases hi : i < ts.length
  · rw [List.getElem?_append_left hi] at a
    rw [List.getElem?_append_left (by rw [← h.1]; exact hi)] at b
    exact h.2 i u q a b
  · rw [List.getElem?_append_right (by omega)] at a
    rw [List.getElem?_append_right (by have := h.1; omega)] at b
    have : i - ts.length = 0 := by
      have := (List.getElem?_eq_some_iff.mp a).1
      simpa using this
    rw [this] at a
    rw [← h.1, this] at b
    simp at a b
    subst a b
    exact ht
theorem row_ne_pen {r : Row} {c : Addr} {a l : Int} : rowO r ≠ penO c a l := by
  unfold rowO penO
  intro e
  cases e
theorem Pen.row_ne {H : Hp} {p c q : Addr} {ns : List Int} {n : Nat} {r : Row} (h : Pen H p c ns n) (hq : H q = some (rowO r)) : q ≠ p := fun e => by
  obtain ⟨a, l, g, _⟩ := h.pen
  rw [e, g] at hq
  exact row_ne_pen (Option.some.inj hq).symm
theorem RowsAt.keep {H H' : Hp} {p c : Addr} {ns : List Int} {n : Nat} {ts : List Addr} {rs : List Row} (h : RowsAt H ts rs) (P : Pen H p c ns n) (k : Keep p H H') : RowsAt H' ts rs := h.mono fun b r e => k b _ e (P.row_ne e)
def spRow : Sp := fun vs H Q _ => ∃ (p c y : Addr) (ns : List Int) (n : Nat) (x : Str) (known : List Str), vs = [.ref p, .str x, .ref y] ∧ Pen H p c ns n ∧ n + 50 ≤ 100000 ∧ H y = some (.lst (known.map V.str)) ∧ known.Nodup ∧ 2 ≤ known.length ∧ known.length ≤ 33 ∧
  ∀ (t : Addr) (bs : List Str) (H' : Hp), bs ≠ [] → bs.Nodup → (∀ b ∈ bs, b ∈ known) → H' t = some (rowO (x, bs)) → Keep p H H' → Pen H' p c ns (n + 34) → Q (.ref t) H'
abbrev nRow : List Str := ["_law_pen_here", "_law_word", "_law_known", "_law_many"]
theorem scRow : FnScope nRow ["_law_pen_here", "_law_word", "_law_known"] (defScope sRow) := ⟨rfl, rfl, rfl, by decide +kernel, rfl, by decide +kernel, by decide +kernel⟩
theorem cut_take (ys : List Str) (k : Nat) : cutV (ys.map V.str) none (some (k : Int)) = (ys.take k).map V.str := by
  unfold cutV
  rw [HT.sIx_nat, HT.sIx_none, List.drop_zero, Nat.sub_zero, ← List.map_take]
  congr 1
  rw [List.length_map]
  by_cases h : k ≤ ys.length
  · rw [Nat.min_eq_left h]
  · rw [Nat.min_eq_right (by omega), List.take_of_length_le (by omega), List.take_of_length_le (by omega)]
theorem ok_row {f fP fM : Addr} {fd fdP fdM : FuncData} (F : Fun K "_law_row" "_law_row" sRow f fd) (T : Bi mg) (PK : Df K mg "_law_pick" sPick fP fdP ["_law_pen_here", "_law_some"]) (GP : FnOk P w K mg base CX0 2 fP fdP ["_law_pen_here", "_law_some"] spPick)
    (MI : Df K mg "_law_mixed" sMixed fM fdM ["_law_pen_here", "_law_some"]) (GM : FnOk P w K mg base CX0 2 fM fdM ["_law_pen_here", "_law_some"] spMixed) : FnOk P w K mg base CX0 3 f fd ["_law_pen_here", "_law_word", "_law_known"] spRow := by
  refine F.ok scRow (fun vs H Q E h => ?_) (fun cdv A outer s H vs Q E hr h => ?_)
  · obtain ⟨p, c, y, ns, n, x, known, rfl, _⟩ := h
    rfl
  · obtain ⟨p, c, y, ns, n, x, known, rfl, hP, hn, hy, hnd, h2, h33, k⟩ := h
    have hr1 : Room 2 _ := hr
    refine ⟨_, (pss_cons (ps_set (i := 3) scRow.nd rfl (Or.inl rfl) (pe_call GP hr1 (by rfl) PK.m PK.F.kp PK.b .nil pass0 (pa_cons (pv 0) (pa_cons (pe_lst (pa_cons pe_int (pa_cons pe_int (pa_cons pe_int (pa_cons pe_int (pa_cons pe_int (pa_cons (pe_callB call_len_seq (by rfl) T.len PySem.boot_len (pa_cons (pv 2) pa_nil)) pa_nil))))))) pa_nil))))
      (pss_one (ps_ret (pe_op op_catT (pe_tup (pa_cons (pv 1) pa_nil)) (pe_callTy call_tuple_of (by rfl) T.tuple (by decide +kernel) (pa_cons (pe_slice sl_list (pe_call GM hr1 (by rfl) MI.m MI.F.kp MI.b .nil pass0 (pa_cons (pv 0) (pa_cons (pv 2) pa_nil))) po_none (po_some (pv 3))) pa_nil)))))), ?_⟩
    refine ⟨_, rfl, _, rfl, y, _, rfl, .inl (SqL.of hy), (by show 6 ≤ sizeLine; decide), fun l6 h6 => ?_⟩
    refine ⟨p, c, ns, n, _, _, rfl, hP.new h6, by omega, .inl ⟨l6, rfl, (hP.pne h6).symm, upd_same⟩, by simp, (by show 6 ≤ 1000; decide), fun j v H1 hv k1 P1 => ?_⟩
    obtain ⟨m, rfl, hm⟩ : ∃ m : Nat, v = .int (m : Int) ∧ 1 ≤ m := by
      have hm6 := List.mem_of_getElem? hv
      simp only [List.mem_cons, List.not_mem_nil, or_false] at hm6
      rcases hm6 with rfl | rfl | rfl | rfl | rfl | rfl
      · exact ⟨1, rfl, by omega⟩
      · exact ⟨1, rfl, by omega⟩
      · exact ⟨2, rfl, by omega⟩
      · exact ⟨2, rfl, by omega⟩
      · exact ⟨3, rfl, by omega⟩
      · exact ⟨_, rfl, by rw [List.length_map]; omega⟩
    have k1' : Keep p H H1 := ((Keep.refl p H).new h6).trans k1
    have hy1 := k1' y _ hy (hP.strs_ne hy)
    -- (word,) + tuple(mixed(pen, known)[:many])
    refine ⟨_, rfl, (by show 1 ≤ sizeLine; decide), fun t1 ht1 => ?_⟩
    refine ⟨_, rfl, _, rfl, p, c, y, ns, n + 1, known, rfl, P1.new ht1, by omega, by rw [upd_ne (ne_of_none hy1 ht1)]; exact hy1, h33, fun lm ys H2 hp hlm k2 P2 => ?_⟩
    have k2' : Keep p H H2 := (k1'.new (k1'.fresh P1 ht1)).trans k2
    have ht2 : H2 t1 = some (.tup [.str x]) := k2 t1 _ upd_same (P1.pne ht1).symm
    refine ⟨_, rfl, _, rfl, lm, _, rfl, SqL.of hlm, fun l7 h7 => ?_⟩
    refine ⟨l7, _, rfl, .inl ⟨SqL.of upd_same, fun t3 ht3 => ?_⟩⟩
    have n71 : t1 ≠ l7 := ne_of_none ht2 h7
    have h71 : (upd H2 l7 (.lst (cutV (ys.map V.str) none (some (m : Int))))) t1 = some (.tup [.str x]) := by rw [upd_ne n71]; exact ht2
    have n13 : t1 ≠ t3 := ne_of_none h71 ht3
    have hyl : ys.length = known.length := hp.length_eq
    have hcut := cut_take ys m
    have htn : ys.take m ≠ [] := fun e => by
      have h3 := congrArg List.length e
      rw [List.length_take, List.length_nil] at h3
      omega
    have htl : (ys.take m).length ≤ 33 := by rw [List.length_take]; omega
    rw [hcut] at ht3 ⊢
    refine ⟨t1, t3, [.str x], (ys.take m).map V.str, rfl, rfl, SqT.of (by rw [upd_ne n13, upd_ne n71]; exact ht2), SqT.of upd_same, by simp, ?_, fun e => absurd (List.map_eq_nil_iff.mp e) htn, fun _ t4 ht4 => ?_⟩
    · rw [List.length_map]; show 1 + _ ≤ 16777216; omega
    have f7 : H l7 = none := k2'.fresh P2 h7
    have P7 := P2.new (o := .lst ((ys.take m).map V.str)) h7
    have k7 : Keep p H (upd H2 l7 (.lst ((ys.take m).map V.str))) := k2'.new f7
    have k8 := k7.new (o := .tup ((ys.take m).map V.str)) (k7.fresh P7 ht3)
    have P8 := P7.new (o := .tup ((ys.take m).map V.str)) ht3
    refine k t4 (ys.take m) _ htn ((hp.nodup_iff.mpr hnd).sublist (List.take_sublist _ _)) (fun b hb => hp.mem_iff.mp (List.mem_of_mem_take hb)) upd_same (k8.new (k8.fresh P8 ht4)) ((P8.new ht4).mono (by omega))
abbrev nRows : List Str := ["_law_pen_here", "_law_words_here", "_law_known", "_law_found", "_law_word"]
theorem scRows : FnScope nRows ["_law_pen_here", "_law_words_here"] (defScope sRows) := ⟨rfl, rfl, rfl, by decide +kernel, rfl, by decide +kernel, by decide +kernel⟩
def spRows : Sp := fun vs H Q _ => ∃ (p c y : Addr) (ns : List Int) (n : Nat) (ws : List Str), vs = [.ref p, .ref y] ∧ Pen H p c ns n ∧ n + 2000 ≤ 100000 ∧ H y = some (.lst (ws.map V.str)) ∧ Words ws ∧ ws.length ≤ 31 ∧
  ∀ (l : Addr) (ts : List Addr) (rs : List Row) (H' : Hp), Good rs → rs.map (·.1) = ws → RowsAt H' ts rs → H' l = some (.lst (ts.map V.ref)) → Keep p H H' → Pen H' p c ns (n + 1500) → Q (.ref l) H'
theorem ok_rows {f fR : Addr} {fd fdR : FuncData} (F : Fun K "_law_rows" "_law_rows" sRows f fd) (RO : Df K mg "_law_row" sRow fR fdR ["_law_pen_here", "_law_word", "_law_known"]) (GR : FnOk P w K mg base CX0 3 fR fdR ["_law_pen_here", "_law_word", "_law_known"] spRow) :
    FnOk P w K mg base CX0 4 f fd ["_law_pen_here", "_law_words_here"] spRows := by
  refine F.ok scRows (fun vs H Q E h => ?_) (fun cdv A outer s H vs Q E hr h => ?_)
  · obtain ⟨p, c, y, ns, n, ws, rfl, _⟩ := h
    rfl
  · obtain ⟨p, c, y, ns, n, ws, rfl, hP, hn, hy, hw, h31, k⟩ := h
    have hr2 : Room 3 _ := hr
    refine ⟨_, (pss_cons (ps_set (i := 2) scRows.nd rfl (Or.inl rfl) (pe_lst (pa_cons pe_str (pa_cons pe_str pa_nil))))
      (pss_cons (ps_set (i := 3) scRows.nd rfl (Or.inl rfl) (pe_lst pa_nil))
      (pss_cons (ps_for PassesOwn.never rfl (pi_list (pv 1)) (pg_name (i := 4) scRows.nd rfl (Or.inl rfl))
      (pss_cons (ps_expr (pe_bm PySem.F.plainAttrs_list PySem.F.slot_list_append PySem.F.type_list_append mt_append (pv 3) (pa_cons (pe_call GR hr2 (by rfl) RO.m RO.F.kp RO.b .nil pass0 (pa_cons (pv 0) (pa_cons (pv 4) (pa_cons (pv 2) pa_nil)))) pa_nil)))
        (pss_one (ps_expr (pe_bm PySem.F.plainAttrs_list PySem.F.slot_list_append PySem.F.type_list_append mt_append (pv 2) (pa_cons (pv 4) pa_nil))))))
      (pss_one (ps_ret (pv 3)))))), ?_⟩
    refine ⟨(by show 2 ≤ sizeLine; decide), fun kn hkn => ⟨Nat.zero_le _, fun fl hfl => ?_⟩⟩
    have nkf : kn ≠ fl := fun e => by rw [← e, upd_same] at hfl; cases hfl
    have hfl0 : H fl = none := by rw [upd_ne nkf.symm] at hfl; exact hfl
    have pk := hP.pne hkn
    have ck := hP.cne hkn
    have pf := hP.pne hfl0
    have cf := hP.cne hfl0
    refine ⟨_, rfl, y, rfl, ⟨_, SqL.of (by rw [upd_ne (ne_of_none hy hfl0), upd_ne (ne_of_none hy hkn)]; exact hy)⟩, for_list (K := K) (a := y) (xs := ws.map V.str)
      (fun i σ Hc => ∃ (rs : List Row) (ts : List Addr) (v4 : Option V), σ = [some (.ref p), some (.ref y), some (.ref kn), some (.ref fl), v4] ∧ Good rs ∧ rs.map (·.1) = ws.take i ∧ RowsAt Hc ts rs ∧ Hc kn = some (.lst ((base0 ++ ws.take i).map V.str)) ∧ Hc fl = some (.lst (ts.map V.ref)) ∧ Keep p H Hc ∧ Pen Hc p c ns (n + 34 * i)) ?_ ?_ ?_ ?_⟩
    · refine ⟨[], [], none, rfl, good_nil, rfl, rowsAt_nil _, by rw [upd_ne nkf, upd_same]; rfl, upd_same, ((Keep.refl p H).new hkn).new hfl0, (hP.new hkn).new hfl⟩
    · rintro i σ Hc hi ⟨rs, ts, v4, rfl, g, en, R, hK, hF, kc, Pc⟩
      exact SqL.of (kc y _ hy (hP.strs_ne hy))
    · rintro i x σ Hc hi ⟨rs, ts, v4, rfl, g, en, R, hK, hF, kc, Pc⟩
      have hil : i < ws.length := by
        have := (List.getElem?_eq_some_iff.mp hi).1
        rwa [List.length_map] at this
      have hwi : ws[i]? = some ws[i] := List.getElem?_eq_getElem hil
      rw [List.getElem?_map, hwi] at hi
      cases hi
      have hrl : rs.length = i := by
        have := congrArg List.length en
        rw [List.length_map, List.length_take] at this
        omega
      have hkl : (base0 ++ ws.take i).length = i + 2 := by
        simp [base0, List.length_take]
        omega
      have hnd : (base0 ++ ws.take i).Nodup := by
        have := g.nodup rs.length (Nat.le_refl _)
        unfold knownAt at this
        rw [List.take_length, en] at this
        exact this
      refine ⟨_, rfl, .inl ⟨rfl, _, SqL.of hF⟩, _, rfl, _, rfl, _, rfl, p, c, kn, ns, n + 34 * i, ws[i], base0 ++ ws.take i, rfl, Pc, by omega, hK, hnd, by omega, by omega, fun t bs Hd b1 b2 b3 ht kd Pd => ?_⟩
      have hFd := kd fl _ hF pf.symm
      have hKd := kd kn _ hK pk.symm
      refine ⟨fl, _, _, rfl, rfl, hFd, ?_, ?_⟩
      · rw [List.length_map, R.1, hrl]; show _ < 16777216; omega
      refine ⟨_, rfl, .inl ⟨rfl, _, SqL.of (by rw [upd_ne nkf]; exact hKd)⟩, _, rfl, kn, _, _, rfl, rfl, by rw [upd_ne nkf]; exact hKd, ?_, ?_⟩
      · rw [List.length_map, hkl]; show _ < 16777216; omega
      have etk : ws.take (i + 1) = ws.take i ++ [ws[i]] := by rw [List.take_add_one, hwi]; rfl
      have hnew : ws[i] ∉ base0 ++ ws.take i := by
        intro hm
        rcases List.mem_append.mp hm with hm | hm
        · have := hw.nb ws[i] (List.getElem_mem _)
          unfold base0 at hm
          rcases List.mem_cons.mp hm with e | hm
          · rw [e] at this; exact this err_barred
          · have e : ws[i] = sVac := by simpa using hm
            rw [e] at this; exact this vac_barred
        · have := List.nodup_append.mp (etk ▸ hw.nd.sublist (List.take_sublist (i + 1) ws))
          exact this.2.2 _ hm _ (by simp) rfl
      have hFe : ∀ o o', (upd (upd Hd fl o) kn o') fl = some o := fun o o' => by rw [upd_ne nkf.symm, upd_same]
      have row1 : ∀ b r, Hd b = some (rowO r) → ∀ xs ys, (upd (upd Hd fl (.lst xs)) kn (.lst ys)) b = some (rowO r) := fun b r e xs ys => by
        have h1 : b ≠ fl := ne_of e hFd (by unfold rowO; intro z; cases z)
        have h2 : b ≠ kn := ne_of e hKd (by unfold rowO; intro z; cases z)
        rw [upd_ne h2, upd_ne h1]
        exact e
      refine ⟨rs ++ [(ws[i], bs)], ts ++ [t], _, rfl, good_snoc g (by rw [en]; exact ⟨hw.vw _ (List.getElem_mem _), hnew, b1, b2, b3⟩), by rw [List.map_append, en, etk]; rfl, ?_, ?_, ?_, ?_, ?_⟩
      · exact ((R.keep Pc kd).mono fun b r e => row1 b r e _ _).snoc (row1 t _ ht _ _)
      · rw [upd_same, etk, ← List.append_assoc, List.map_append (l₂ := [ws[i]])]
        rfl
      · rw [hFe, List.map_append]
        rfl
      · exact ((kc.trans kd).new hfl0).new hkn
      · exact ((Pd.upd' pf cf).upd' pk ck).mono (by omega)
    · rintro σ Hc ⟨rs, ts, v4, rfl, g, en, R, hK, hF, kc, Pc⟩
      rw [List.length_map] at en Pc
      rw [List.take_length] at en
      exact ⟨_, rfl, k fl ts rs Hc g en R hF kc (Pc.mono (by omega))⟩
end
end K2
end
section
set_option Elab.async false
set_option maxRecDepth 100000
set_option linter.all false
namespace K2
open PySem L2
theorem _root_.L2.Same.put {H H1 : Hp} {q : Addr} {o : HO} (k : Same H H1) (h : H q = none) : Same H (upd H1 q o) := fun b u hb => by
  rw [upd_ne (ne_of_none hb h)]
  exact k b u hb
theorem Pen.same {H H' : Hp} {p c : Addr} {ns : List Int} {n : Nat} (h : Pen H p c ns n) (k : Same H H') : Pen H' p c ns n := by
  obtain ⟨a, l, g, g1, g2, g3⟩ := h.pen
  exact ⟨⟨a, l, k _ _ g, g1, g2, g3⟩, k _ _ h.cells, h.small⟩
theorem _root_.L2.Same.keep {p : Addr} {H H' : Hp} (k : Same H H') : Keep p H H' := fun b o h _ => k b o h
theorem dget_s {H : Hp} {a : Addr} {kvs : List (Key × V)} {x : Str} {v : V} (e : H a = some (.dK kvs)) (hv : valV kvs (Sum.inr x : Key) = some v) : DGet H a (.str x) (some v) := by
  have := DGet.k (k := (Sum.inr x : Key)) e
  rw [hv] at this
  exact this
theorem cutV_whole {xs : List V} {lo hi : Option Int} (h : HT.sIx xs.length 0 lo = 0 ∧ HT.sIx xs.length xs.length hi = xs.length) : cutV xs lo hi = xs := by
  unfold cutV
  rw [h.1, h.2, List.drop_zero, Nat.sub_zero, List.take_length]
def rSl2 : V → Option Int → Option Int → Hp → VK → Prop := fun x lo hi H Q => ∃ a xs, x = .ref a ∧ H a = some (.tup xs) ∧ ∀ p H1, Same H H1 → H1 p = some (.tup (cutV xs lo hi)) → Q (.ref p) H1
def rCat2 : R2 := fun x y H Q => ∃ a b xs ys, x = .ref a ∧ y = .ref b ∧ H a = some (.tup xs) ∧ H b = some (.tup ys) ∧ xs.length + ys.length ≤ sizeLine ∧ ∀ p H1, Same H H1 → H1 p = some (.tup (xs ++ ys)) → Q (.ref p) H1
section
variable {X : Cx}
theorem sl_tup2 : SlR X rSl2 := by
  intro pins s σ H x v vl vu lo hi sl Q I rx hs pl pu h
  obtain ⟨a, xs, rfl, ha, q⟩ := h
  exact sl_tupA pins s σ H _ v vl vu lo hi sl Q I rx hs pl pu ⟨a, xs, rfl, SqT.of ha, fun hw => q a H (Same.refl H) (by rw [cutV_whole hw]; exact ha), fun _ p hp => q p _ ((Same.refl H).put hp) upd_same⟩
theorem op_cat2 : OpR X (binaryOp .Add) rCat2 := by
  intro pins s σ H x y v u Q I rx ry h
  obtain ⟨a, b, xs, ys, rfl, rfl, ha, hb, hz, q⟩ := h
  refine op_catA pins s σ H _ _ v u Q I rx ry ⟨a, b, xs, ys, rfl, rfl, SqT.of ha, SqT.of hb, hz, fun e => q b H (Same.refl H) (by rw [e]; exact hb), fun _ e => q a H (Same.refl H) (by rw [e, List.append_nil]; exact ha), fun _ _ p hp => q p _ ((Same.refl H).put hp) upd_same⟩
end
end K2
end
section
set_option Elab.async false
set_option maxRecDepth 100000
set_option linter.all false
namespace K2
open PySem L2
abbrev sLight : Stmt := top 36
abbrev nLight : List Str := ["_law_rows_here", "_law_ways", "_law_found", "_law_row_here", "_law_kept", "_law_many", "_law_base"]
theorem names_sub {rs qs : List Row} (hl : qs.length = rs.length) (h : ∀ (i : Nat) (r q : Row), rs[i]? = some r → qs[i]? = some q → Sub1 r q) : qs.map (·.1) = rs.map (·.1) := by
  apply List.ext_getElem?
  intro i
  rw [List.getElem?_map, List.getElem?_map]
  by_cases hi : i < rs.length
  · have h1 : rs[i]? = some rs[i] := List.getElem?_eq_getElem hi
    have h2 : qs[i]? = some (qs[i]'(by omega)) := List.getElem?_eq_getElem _
    rw [h1, h2]
    exact congrArg some (h i _ _ h1 h2).nm
  · rw [List.getElem?_eq_none (by omega), List.getElem?_eq_none (by omega)]
def HasI (kvs : List (Key × V)) (xs : List Str) : Prop := ∀ x ∈ xs, ∃ z : Int, valV kvs (Sum.inr x : Key) = some (.int z)
theorem HasI.put {kvs : List (Key × V)} {xs : List Str} (h : HasI kvs xs) (x : Str) (z : Int) : HasI (putK kvs (Sum.inr x : Key) (.int z)) (xs ++ [x]) := by
  intro y hy
  rw [valV_put]
  by_cases e : (Sum.inr y : Key) = Sum.inr x
  · rw [if_pos e]; exact ⟨z, rfl⟩
  · rw [if_neg e]
    rcases List.mem_append.mp hy with hy | hy
    · exact h y hy
    · have : y = x := by simpa using hy
      exact absurd (by rw [this]) e
def ways0 : List (Key × V) := mergeK [] [(Sum.inr (Str.ofString "error"), V.int 1), (Sum.inr (Str.ofString "vacant"), V.int 2)]
theorem ways0_has : HasI ways0 base0 := by
  intro x hx
  unfold base0 at hx
  rcases List.mem_cons.mp hx with rfl | hx
  · exact ⟨1, by decide +kernel⟩
  · have : x = sVac := by simpa using hx
    subst this
    exact ⟨2, by decide +kernel⟩
theorem ways0_len : ways0.length ≤ 2 := by decide +kernel
theorem putK_le (c : List (Key × V)) (k : Key) (x : V) : (putK c k x).length ≤ c.length + 1 := by
  unfold putK
  split
  · rw [List.length_map]; omega
  · rw [List.length_append]; simp
def spLight : Sp := fun vs H Q _ => ∃ (l : Addr) (ts : List Addr) (rs : List Row), vs = [.ref l] ∧ H l = some (.lst (ts.map V.ref)) ∧ RowsAt H ts rs ∧ Good rs ∧ rs.length ≤ 31 ∧
  ∀ (l' : Addr) (ts' : List Addr) (qs : List Row) (H' : Hp), Good qs → qs.length = rs.length → qs.map (·.1) = rs.map (·.1) → RowsAt H' ts' qs → H' l' = some (.lst (ts'.map V.ref)) → Same H H' → Q (.ref l') H'
theorem cut2 (x b : Str) (bs : List Str) : cutV ((x :: b :: bs).map V.str) none (some 2) = [x, b].map V.str := by
  have := cut_take (x :: b :: bs) 2
  exact this
theorem cut2' (x b : Str) (bs : List Str) : cutV ((x :: b :: bs).map V.str) (some 2) none = bs.map V.str := by
  unfold cutV
  rw [show (2 : Int) = ((2 : Nat) : Int) from rfl, HT.sIx_nat, HT.sIx_none, List.length_map]
  have : min 2 (x :: b :: bs).length = 2 := by simp
  rw [this]
  show (bs.map V.str).take ((x :: b :: bs).length - 2) = bs.map V.str
  rw [List.take_of_length_le (by simp)]
theorem sub_snoc {bs ks : List Str} {j : Nat} {b : Str} (h : ks.Sublist (bs.take j)) (hb : bs[j]? = some b) : (ks ++ [b]).Sublist (bs.take (j + 1)) := by
  rw [List.take_add_one, hb]
  exact h.append (List.Sublist.refl _)
section
variable {P : Program} {w : World} {K : PySem.W.Frag} {mg : Str → Option Value} {base : Heap}
theorem scLight : FnScope nLight ["_law_rows_here"] (defScope sLight) := ⟨rfl, rfl, rfl, by decide +kernel, rfl, by decide +kernel, by decide +kernel⟩
theorem ok_light {f : Addr} {fd : FuncData} (F : Fun K "_law_light" "_law_light" sLight f fd) : FnOk P w K mg base CX0 1 f fd ["_law_rows_here"] spLight := by
  refine F.ok scLight (fun vs H Q E h => ?_) (fun cdv A outer s H vs Q E hr h => ?_)
  · obtain ⟨l, ts, rs, rfl, _⟩ := h
    rfl
  · obtain ⟨l, ts, rs, rfl, hl, R, g, h31, k⟩ := h
    have hu := hu_of hr
    refine ⟨_, (pss_cons (ps_set (i := 1) scLight.nd rfl (Or.inl rfl) (pe_disp (pps_cons pe_str pe_int (pps_cons pe_str pe_int pps_nil)) (by rfl) (by rfl) (fun z => by cases z) (by decide)))
      (pss_cons (ps_set (i := 2) scLight.nd rfl (Or.inl rfl) (pe_lst pa_nil))
      (pss_cons (ps_for PassesOwn.never rfl (pi_list (pv 0)) (pg_name (i := 3) scLight.nd rfl (Or.inl rfl))
      (pss_cons (ps_par (i := 4) (j := 5) (by rfl) scLight.nd rfl rfl (by decide) rfl rfl (pa_cons (pe_slice sl_tup2 (pv 3) po_none (po_some pe_int)) (pa_cons (pe_op op_add pe_int (pe_dget hu (pv 1) (pe_ix ix_tup (pv 3) pe_int (fun _ _ => rfl)) (fun _ _ => rfl))) pa_nil)) (by rfl))
        (pss_cons (ps_for PassesOwn.never rfl (pi_tup (pe_slice sl_tup2 (pv 3) (po_some pe_int) po_none)) (pg_name (i := 6) scLight.nd rfl (Or.inl rfl))
        (pss_one (ps_if (pt_cmpR op_lt (pe_op op_add (pv 5) (pe_dget hu (pv 1) (pv 6) (fun _ _ => rfl))) pe_int (nomark _))
          (pss_one (ps_par (i := 4) (j := 5) (by rfl) scLight.nd rfl rfl (by decide) rfl rfl (pa_cons (pe_op op_cat2 (pv 4) (pe_tup (pa_cons (pv 6) pa_nil))) (pa_cons (pe_op op_add (pv 5) (pe_dget hu (pv 1) (pv 6) (fun _ _ => rfl))) pa_nil)) (by rfl)))
          pss_nil)))
        (pss_cons (ps_dput hu (pv 1) (pe_ix ix_tup (pv 3) pe_int (fun _ _ => rfl)) (pv 5) rfl)
        (pss_one (ps_expr (pe_bm PySem.F.plainAttrs_list PySem.F.slot_list_append PySem.F.type_list_append mt_append (pv 2) (pa_cons (pv 4) pa_nil))))))))
      (pss_one (ps_ret (pv 2)))))), ?_⟩
    refine fun d hd => ⟨upd_same, [(Sum.inr (Str.ofString "error"), V.int 1), (Sum.inr (Str.ofString "vacant"), V.int 2)], rfl, by decide, ?_⟩
    rw [upd_upd]
    refine ⟨Nat.zero_le _, fun fl hfl => ?_⟩
    have nkf : d ≠ fl := fun e => by rw [← e, upd_same] at hfl; cases hfl
    have hfl0 : H fl = none := by rw [upd_ne nkf.symm] at hfl; exact hfl
    refine ⟨_, rfl, l, rfl, ⟨_, SqL.of (by rw [upd_ne (ne_of_none hl hfl0), upd_ne (ne_of_none hl hd)]; exact hl)⟩, for_list (K := K) (a := l) (xs := ts.map V.ref)
      (fun i σ Hc => ∃ (qs : List Row) (ts' : List Addr) (kvs : List (Key × V)) (v3 v4 v5 v6 : Option V), σ = [some (.ref l), some (.ref d), some (.ref fl), v3, v4, v5, v6] ∧ qs.length = i ∧ (∀ (j : Nat) (r q : Row), rs[j]? = some r → qs[j]? = some q → Sub1 r q) ∧
        RowsAt Hc ts' qs ∧ Hc d = some (.dK kvs) ∧ kvs.length ≤ i + 2 ∧ HasI kvs (knownAt rs i) ∧ Hc fl = some (.lst (ts'.map V.ref)) ∧ Same H Hc) ?_ ?_ ?_ ?_⟩
    · exact ⟨[], [], ways0, _, _, _, _, rfl, rfl, fun j r q _ h => by simp at h, rowsAt_nil _, by rw [upd_ne nkf, upd_same]; rfl, ways0_len, ways0_has, upd_same, ((Same.refl H).put hd).put hfl0⟩
    · rintro i σ Hc hi ⟨qs, ts', kvs, v3, v4, v5, v6, rfl, _, _, _, _, _, _, _, sm⟩
      exact SqL.of (sm l _ hl)
    · rintro i x σ Hc hi ⟨qs, ts', kvs, v3, v4, v5, v6, rfl, hql, hsub, RQ, hD, hkl, hhas, hF, sm⟩
      have hil : i < rs.length := by
        have := (List.getElem?_eq_some_iff.mp hi).1
        rw [List.length_map, R.1] at this
        exact this
      have hti : ts[i]? = some (ts[i]'(by rw [R.1]; exact hil)) := List.getElem?_eq_getElem _
      rw [List.getElem?_map, hti] at hi
      generalize ts[i]'(by rw [R.1]; exact hil) = t at hti hi
      cases hi
      have hri : rs[i]? = some rs[i] := List.getElem?_eq_getElem hil
      have ht := sm t _ (R.2 i t _ hti hri)
      have RO := g i _ hri
      generalize rs[i] = r at hri ht RO
      obtain ⟨x, bs0⟩ := r
      cases bs0 with
      | nil => exact absurd rfl RO.ne
      | cons b bs =>
      unfold rowO at ht
      obtain ⟨z0, hz0⟩ := hhas b (RO.sub b (by simp))
      refine ⟨_, rfl, _, rfl, t, _, rfl, ht, fun kp H1 s1 hkp => ?_⟩
      rw [cut2] at hkp
      refine ⟨_, rfl, _, rfl, t, _, _, _, rfl, rfl, SqT.of (s1 t _ ht), atI_nat (j := 1) rfl, d, _, rfl, dget_s (s1 d _ hD) hz0, _, _, rfl, rfl, _, _, rfl, ?_⟩
      refine ⟨_, rfl, _, rfl, t, _, rfl, s1 t _ ht, fun rp H2 s2 hrp => ?_⟩
      rw [cut2'] at hrp
      have s12 := sm.trans (s1.trans s2)
      have ht2 := s2 t _ (s1 t _ ht)
      have hD2 := s2 d _ (s1 d _ hD)
      have hF2 := s2 fl _ (s1 fl _ hF)
      refine ⟨rp, rfl, ⟨_, SqT.of hrp⟩, for_tup (K := K) (a := rp) (xs := bs.map V.str)
        (fun j σ Hd => ∃ (kp : Addr) (ks : List Str) (z : Int) (v6 : Option V), σ = [some (.ref l), some (.ref d), some (.ref fl), some (.ref t), some (.ref kp), some (.int z), v6] ∧ Same H2 Hd ∧ Hd kp = some (rowO (x, b :: ks)) ∧ ks.Sublist (bs.take j)) ?_ ?_ ?_ ?_⟩
      · exact ⟨kp, [], _, _, rfl, Same.refl _, s2 kp _ hkp, List.nil_sublist _⟩
      · rintro j σ Hd _ ⟨kp, ks, z, v6, rfl, sd, _, _⟩
        exact SqT.of (sd rp _ hrp)
      · rintro j y σ Hd hj ⟨kp, ks, z, v6, rfl, sd, hk, hs⟩
        have hjl : j < bs.length := by
          have := (List.getElem?_eq_some_iff.mp hj).1
          rwa [List.length_map] at this
        have hbj : bs[j]? = some bs[j] := List.getElem?_eq_getElem hjl
        rw [List.getElem?_map, hbj] at hj
        cases hj
        obtain ⟨z1, hz1⟩ := hhas bs[j] (RO.sub _ (List.mem_cons_of_mem _ (List.getElem_mem hjl)))
        refine ⟨_, rfl, _, rfl, _, rfl, d, _, rfl, dget_s (sd d _ hD2) hz1, _, _, rfl, rfl, _, _, rfl, rfl, _, rfl, ite2 (fun _ => ?_) (fun _ => ?_)⟩
        · refine ⟨_, rfl, _, rfl, (by show 1 ≤ sizeLine; decide), fun t5 h5 => ?_⟩
          have s5 := (Same.refl Hd).put (o := .tup [V.str bs[j]]) h5
          unfold rowO at hk
          refine ⟨kp, t5, _, _, rfl, rfl, s5 kp _ hk, upd_same, ?_, fun t6 H6 s6 h6 => ?_⟩
          · have := hs.length_le
            have h7 : bs.length ≤ 31 := by
              have q := RO.nd.length_le_of_subset (RO.sub)
              rw [knownAt_len (Nat.le_of_lt hil), List.length_cons] at q
              omega
            rw [List.length_take] at this
            simp
            show _ ≤ 16777216
            omega
          refine ⟨_, rfl, _, rfl, _, rfl, d, _, rfl, dget_s (s6 d _ (s5 d _ (sd d _ hD2))) hz1, _, _, rfl, rfl, _, _, rfl, ?_⟩
          exact ⟨t6, ks ++ [bs[j]], _, _, rfl, sd.trans (s5.trans s6), by rw [h6]; simp [rowO], sub_snoc hs hbj⟩
        · refine ⟨kp, ks, _, _, rfl, sd, hk, ?_⟩
          exact hs.trans (List.take_sublist_take_left (by omega))
      · rintro σ Hd ⟨kp, ks, z, v6, rfl, sd, hk, hs⟩
        rw [List.length_map, List.take_length] at hs
        have hDd := sd d _ hD2
        have hFd := sd fl _ hF2
        have htd := sd t _ ht2
        refine ⟨_, rfl, _, rfl, _, rfl, t, _, _, _, rfl, rfl, SqT.of htd, atI_nat (j := 0) rfl, d, _, rfl, DPut.k (k := Sum.inr x) hDd (by show _ < 16777216; omega), ?_⟩
        refine ⟨_, rfl, .inl ⟨rfl, _, SqL.of (by rw [upd_ne nkf.symm]; exact hFd)⟩, _, rfl, fl, _, _, rfl, rfl, by rw [upd_ne nkf.symm]; exact hFd, ?_, ?_⟩
        · rw [List.length_map, RQ.1, hql]; show _ < 16777216; omega
        have rk : ∀ (o1 o2 : HO) (q : Addr) (r : Row), Hd q = some (rowO r) → (upd (upd Hd d o1) fl o2) q = some (rowO r) := fun o1 o2 q r hq => by
          have h1 : q ≠ d := ne_of hq hDd (by unfold rowO; intro z; cases z)
          have h2 : q ≠ fl := ne_of hq hFd (by unfold rowO; intro z; cases z)
          rw [upd_ne h2, upd_ne h1]
          exact hq
        refine ⟨qs ++ [(x, b :: ks)], ts' ++ [kp], _, _, _, _, _, rfl, by rw [List.length_append, hql]; rfl, ?_, ?_, by rw [upd_ne nkf, upd_same], ?_, ?_, by rw [upd_same, List.map_append]; rfl, ((s12.trans sd).put hd).put hfl0⟩
        · intro j r' q hr' hq
          by_cases hj : j < qs.length
          · rw [List.getElem?_append_left hj] at hq
            exact hsub j r' q hr' hq
          · have hj2 : j = i := by
              have := (List.getElem?_eq_some_iff.mp hq).1
              rw [List.length_append] at this
              simp at this
              omega
            subst hj2
            rw [List.getElem?_append_right (by omega), hql, Nat.sub_self] at hq
            cases hq
            rw [hri] at hr'
            cases hr'
            exact ⟨rfl, hs.cons₂ b, by simp⟩
        · exact (RQ.mono fun q r hq => rk _ _ q r ((s1.trans (s2.trans sd)) q _ hq)).snoc (rk _ _ kp _ hk)
        · have := putK_le kvs (Sum.inr x) (V.int z)
          omega
        · rw [knownAt_succ hri]
          exact hhas.put x z
    · rintro σ Hc ⟨qs, ts', kvs, v3, v4, v5, v6, rfl, hql, hsub, RQ, hD, hkl, hhas, hF, sm⟩
      rw [List.length_map, R.1] at hql
      exact ⟨_, rfl, k fl ts' qs Hc (good_sub g hql hsub) hql (names_sub hql hsub) RQ hF sm⟩
end
end K2
end
section
set_option Elab.async false
set_option maxRecDepth 100000
set_option linter.all false
namespace K2
open PySem L2
abbrev nUppers : List Str := ["_law_rows_here", "_law_found", "_law_row_here", "_law_mine", "_law_base", "_law_one"]
/-- a dict of the heap from names to objects that hold lists of names -/
inductive Tab (f : List Str → HO) (H : Hp) : List (Key × V) → Tb → Prop where
  | nil : Tab f H [] []
  | cons {x : Str} {us : List Str} {a : Addr} {kvs : List (Key × V)} {t : Tb} : H a = some (f us) → Tab f H kvs t → Tab f H ((Sum.inr x, .ref a) :: kvs) ((x, us) :: t)
theorem Tab.snoc {f : List Str → HO} {H : Hp} {kvs : List (Key × V)} {t : Tb} (h : Tab f H kvs t) {x : Str} {us : List Str} {a : Addr} (ha : H a = some (f us)) : Tab f H (kvs ++ [(Sum.inr x, .ref a)]) (t ++ [(x, us)]) := by
  induction h with
  | nil => exact .cons ha .nil
  | cons h1 _ ih => exact .cons h1 ih
theorem Tab.mono {f : List Str → HO} {H H' : Hp} {kvs : List (Key × V)} {t : Tb} (h : Tab f H kvs t) (k : ∀ a us, H a = some (f us) → H' a = some (f us)) : Tab f H' kvs t := by
  induction h with
  | nil => exact .nil
  | cons h1 _ ih => exact .cons (k _ _ h1) ih
theorem Tab.len {f : List Str → HO} {H : Hp} {kvs : List (Key × V)} {t : Tb} (h : Tab f H kvs t) : kvs.length = t.length := by
  induction h with
  | nil => rfl
  | cons _ _ ih => rw [List.length_cons, List.length_cons, ih]
theorem valV_cons (k : Key) (v : V) (kvs : List (Key × V)) (j : Key) : valV ((k, v) :: kvs) j = if k = j then some v else valV kvs j := by
  unfold valV
  rw [List.find?_cons]
  by_cases e : k = j
  · simp [e]
  · simp [e]
theorem Tab.val {f : List Str → HO} {H : Hp} {kvs : List (Key × V)} {t : Tb} (h : Tab f H kvs t) {x : Str} (hx : x ∈ keys t) : ∃ a, valV kvs (Sum.inr x : Key) = some (.ref a) ∧ H a = some (f (look t x)) := by
  induction h with
  | nil => simp [keys] at hx
  | @cons y us a kvs t h1 _ ih =>
    rw [valV_cons]
    by_cases e : y = x
    · subst e
      exact ⟨a, by rw [if_pos rfl], by simp only [look, if_true]; exact h1⟩
    · have e2 : ¬ (Sum.inr y : Key) = Sum.inr x := fun q => e (Sum.inr.inj q)
      rw [if_neg e2]
      simp only [look, if_neg e]
      refine ih ?_
      unfold keys at hx ⊢
      rcases List.mem_cons.mp hx with q | q
      · exact absurd q.symm e
      · exact q
theorem Tab.none {f : List Str → HO} {H : Hp} {kvs : List (Key × V)} {t : Tb} (h : Tab f H kvs t) {x : Str} (hx : x ∉ keys t) : valV kvs (Sum.inr x : Key) = none := by
  induction h with
  | nil => rfl
  | @cons y us a kvs t h1 _ ih =>
    rw [valV_cons]
    have e : ¬ y = x := fun q => hx (by rw [q]; simp [keys])
    have e2 : ¬ (Sum.inr y : Key) = Sum.inr x := fun q => e (Sum.inr.inj q)
    rw [if_neg e2]
    exact ih fun q => hx (by unfold keys at q ⊢; exact List.mem_cons_of_mem _ q)
theorem Tab.keys_eq {f : List Str → HO} {H : Hp} {kvs : List (Key × V)} {t : Tb} (h : Tab f H kvs t) : kvs.map (·.1) = (keys t).map Sum.inr := by
  induction h with
  | nil => rfl
  | cons _ _ ih =>
    rw [List.map_cons, ih]
    rfl
theorem merge2 (v1 v2 : V) : mergeK [] [((Sum.inr (Str.ofString "error") : Key), v1), ((Sum.inr (Str.ofString "vacant") : Key), v2)] = [((Sum.inr (Str.ofString "error") : Key), v1), ((Sum.inr (Str.ofString "vacant") : Key), v2)] := by
  show putK (putK [] (Sum.inr (Str.ofString "error") : Key) v1) (Sum.inr (Str.ofString "vacant") : Key) v2 = _
  rw [putK_new v1 rfl, putK_new v2 (by
    rw [List.nil_append, valV_cons, if_neg (by decide +kernel)]
    rfl)]
  rfl
def fL (us : List Str) : HO := .lst (us.map V.str)
def spUppers : Sp := fun vs H Q _ => ∃ (l : Addr) (ts : List Addr) (rs : List Row), vs = [.ref l] ∧ H l = some (.lst (ts.map V.ref)) ∧ RowsAt H ts rs ∧ Good rs ∧ rs.length ≤ 31 ∧
  ∀ (d : Addr) (kvs : List (Key × V)) (H' : Hp), H d = none → H' d = some (.dK kvs) → Tab fL H' kvs (ups rs) → Same H H' → Q (.ref d) H'
theorem cut1' (x : Str) (bs : List Str) : cutV ((x :: bs).map V.str) (some 1) none = bs.map V.str := by
  unfold cutV
  rw [show (1 : Int) = ((1 : Nat) : Int) from rfl, HT.sIx_nat, HT.sIx_none, List.length_map]
  have : min 1 (x :: bs).length = 1 := by simp
  rw [this]
  show (bs.map V.str).take ((x :: bs).length - 1) = bs.map V.str
  rw [List.take_of_length_le (by simp)]
theorem lineL_take {t : Tb} {m bs : List Str} {j : Nat} {b : Str} (h : bs[j]? = some b) : lineL t m (bs.take (j + 1)) = mergeU (lineL t m (bs.take j)) (look t b) := by
  unfold lineL
  rw [List.take_add_one, h]
  simp
/-- how long a line may be -/
theorem line_len {t : Tb} (T : TOk t) {x : Str} {bs : List Str} (h : ∀ b ∈ bs, b ∈ keys t) : (lineL t [x] bs).length ≤ (keys t).length + 1 := by
  obtain ⟨h1, h2, _⟩ := lineL_ok T (x := x) bs [x] h (by simp) (by simp)
  have := h1.length_le_of_subset (l₂ := x :: keys t) fun u hu => by
    rcases h2 u hu with rfl | q
    · simp
    · exact List.mem_cons_of_mem _ q
  simpa using this
end K2
end
section
set_option Elab.async false
set_option maxRecDepth 100000
set_option linter.all false
namespace K2
open PySem PySem.Spec PyProof.Rows L2
section
variable {p : Program} {w : World} {A : Around} {Z : Result → Shared → Prop} {it : Addr} {f g : List Addr} {Gs : Array GenState → Array GenState → Prop} {N : Nat} {Yv : Nat → Value → Prop} {Sv : Nat → Shared → Prop}
/-- a set that takes in unlike texts, one after the other -/
theorem set_takes (Wk : WalksS p w A.in1 it f g Gs N Yv Sv) {a : Addr} (af : a ∉ f) {xs : List Str} (lx : xs.length = N) (un : xs.Nodup) (few : N ≤ 1000) (val : ∀ j v, Yv j v → ∃ t, v = .str (xs.getD j Str.empty) t) :
    ∀ (m j : Nat) (s : Shared), N - j = m → j ≤ N → Sv j s → s.heap.SetOf (strKind p w) a (fun y => decide (y ∈ xs.take j)) j → (∀ z, Moved (a :: g) Gs s z → z.heap.SetOf (strKind p w) a (fun y => decide (y ∈ xs)) N → Z (.ok (.ret .none)) z) →
      codeAny (model p w) A (.builtin "set.update.loop" ⟨[.ref a, .ref it], []⟩) Z s := by
  have ag : a ∉ g := fun q => af (Wk.sub _ q)
  have up : ∀ b ∈ g, b ∈ a :: g := fun b q => List.mem_cons_of_mem _ q
  have here : ∀ {s z : Shared} {T : Str → Bool} {c : Nat}, Moved g Gs s z → s.heap.SetOf (strKind p w) a T c → z.heap.SetOf (strKind p w) a T c := fun mv q => by
    obtain ⟨o, es, ep, tb, ho, rest⟩ := q
    exact ⟨o, es, ep, tb, mv.heap a _ ag ho, rest⟩
  intro m
  induction m with
  | zero =>
    intro j s hm hj st se fin
    obtain rfl : j = N := by omega
    refine codeAny_builtin F.entry_set_update_loop (by
      rw [Around.under_plainId F.plain_set_update_loop _]
      refine wpAny_bind (Wk.done s _ _ st fun z mv => wpAny_pure (fin z (mv.mono up) ?_))
      rw [← lx, List.take_length] at se
      rw [← lx]
      exact here mv se)
  | succ m ih =>
    intro j s hm hj st se fin
    have jl : j < N := by omega
    have xj : xs[j]? = some (xs.getD j Str.empty) := by
      rw [List.getD_eq_getElem?_getD, List.getElem?_eq_getElem (by omega)]
      rfl
    generalize xs.getD j Str.empty = x at xj
    refine codeAny_builtin F.entry_set_update_loop (by
      rw [Around.under_plainId F.plain_set_update_loop _]
      refine wpAny_bind (Wk.item j s _ _ jl st fun v z hv st2 mv => ?_)
      obtain ⟨t, ev⟩ := val j v hv
      have ex : xs.getD j Str.empty = x := by rw [List.getD_eq_getElem?_getD, xj]; rfl
      rw [ex] at ev
      subst ev
      have fresh : decide (x ∈ xs.take j) = false := by
        rw [decide_eq_false_iff_not]
        intro q
        obtain ⟨i, hi⟩ := List.getElem?_of_mem q
        rw [List.getElem?_take] at hi
        split at hi
        · rename_i lt
          have := (List.getElem?_inj (i := i) (by omega) un).mp (hi.trans xj.symm)
          omega
        · cases hi
      have se' := here mv se
      refine wpAny_bind (wpAny_holding (by
        unfold setAdd
        refine wpAny_holding (wpAny_bind ((strKind p w).pyHash (k := x) (strKind_is _ _ _ _) (wpAny_setAddHashed_of (knd := strKind p w) (s := { z with toks := z.toks + 1 }) (strKind_is _ _ _ _) rfl se' (by unfold scanBound; omega) fun h2 sb se2 => ?_)))
        have se3 : h2.SetOf (strKind p w) a (fun y => decide (y ∈ xs.take (j + 1))) (j + 1) := SetOf_congr se2 (fun y => by
          rw [List.take_add_one, xj]
          simp [List.mem_append]) (by rw [fresh]; rfl)
        refine wpAny_pure ⟨plainId_quiet F.plain_set_update_loop _, ih (j + 1) _ (by omega) jl (Wk.frame _ z _ _ st2 (Nat.le_succ _) fun b hb o e => ?_) se3 fun y mv2 se4 => fin y (Moved.trans Wk.gtrans ((mv.mono up).then_heap (Nat.le_succ _) fun b o hb e => ?_) mv2) se4⟩
        · rw [sb.2 b fun q : b = a => af (q ▸ hb)]; exact e
        · rw [sb.2 b fun q : b = a => hb (q ▸ List.mem_cons_self)]; exact e)))
end
section
variable {p : Program} {w : World} {A : Around} {E : Value → Shared → Prop} {s : Shared}
def emptySet (b : Bool) : Obj := { cls := .type "set", dict := none, data := .set #[] 0 (.fresh 0 0 b) }
set_option maxHeartbeats 3200000 in
/-- set(t) of a tuple of unlike texts has as many items -/
theorem set_of_tup {l : Addr} {its : Array Value} {xs : List Str} {Q : Value → Shared → Prop} (hh : A.handled = none) (hl : s.heap.IsTuple l its) (hi : StrsAre its.toList xs) (un : xs.Nodup) (few : xs.length ≤ 1000)
    (fin : ∀ (h' : Heap) (tk : Nat), h'.SetOf (strKind p w) s.heap.objs.size (fun y => decide (y ∈ xs)) xs.length → (∀ b o, b < s.heap.objs.size → s.heap.get? b = some o → h'.get? b = some o) → Q (.ref s.heap.objs.size) { s with heap := h', toks := tk }) :
    wpAny (model p w) A (call (.type "set") [.ref l]) Q E s := by
  have sz : its.size = xs.length := by rw [← Array.length_toList, StrsAre.len_eq hi]
  obtain ⟨c, tl, hmro⟩ := F.called_set.mro
  have m1 := F.called_set.made
  have m2 := F.called_set.sub
  refine wpAny_call (codeAny_of_tree (wpAny_pure ⟨Code.quiet_builtin _ (by decide +kernel), codeAny_builtin F.entry_type_call (by
    rw [Around.under_plain (weight_type_call_type "set" [.ref l] []) rfl]
    have m3 := F.called_set.notType
    have m4 := F.called_set.canCreate
    have m5 := F.typeCall_set_1 (.ref l)
    repeat (any_goals (first | assumption | wp_step))
    refine codeAny_mono (code_set_new_1 (.ref l) (E := E) (Q₁ := fun v z => ∃ b : Bool, v = .ref s.heap.objs.size ∧ z = { s with heap := s.heap.push (emptySet b) }) fun b => ⟨b, rfl, rfl⟩) fun r z hr => ?_
    cases r with
    | error e => exact hr
    | ok fl =>
      cases fl with
      | next => exact hr.elim
      | brk => exact hr.elim
      | cont => exact hr.elim
      | ret v =>
        obtain ⟨led, rfl, rfl⟩ := hr
        have hS : (s.heap.push (emptySet led)).get? s.heap.objs.size = some (emptySet led) := Heap.get?_push_size _ rfl
        have hT : Shared.TypeIs { s with heap := s.heap.push (emptySet led) } (.ref s.heap.objs.size) "set" := ⟨_, hS, rfl⟩
        have n1 := F.called_set.init.lookup
        have n2 := F.called_set.init.bind (.ref s.heap.objs.size)
        repeat (any_goals (first | assumption | wp_step))
        refine codeAny_mono (codeAny_call_builtin (R := wants (fun r z => r = .none ∧ ∃ h' tk, z = { s with heap := h', toks := tk } ∧ h'.SetOf (strKind p w) s.heap.objs.size (fun y => decide (y ∈ xs)) xs.length ∧ (∀ b o, b < s.heap.objs.size → s.heap.get? b = some o → h'.get? b = some o)) E) F.called_set.init.plain F.entry_set_init (check_set_init_1 hT ?_)) fun r2 z2 hr2 => ?_
        · obtain ⟨⟨tc, td, tdata, tsl⟩, ho, hc, tn, hd⟩ := hl
          simp only at hc hd
          subst hc hd
          have ho2 : (s.heap.push (emptySet led)).get? l = some { cls := .type "tuple", dict := td, data := .seq its tn, slots := tsl } := Heap.get?_push_of_some _ ho
          have q1 := F.sub_tuple_set
          have q2 := F.sub_tuple_frozenset
          have q3 : (Value.type "tuple" == Value.type "dict") = false := by decide
          have tup : (s.heap.push (emptySet led)).IsTuple l its := ⟨_, ho2, rfl, tn, rfl⟩
          have lS : l < s.heap.objs.size := Heap.lt_size ho
          have pz : (s.heap.push (emptySet led)).objs.size = s.heap.objs.size + 1 := Heap.size_push ..
          unfold Builtin.«set.__init__» noKeywords Builtin.Frozenset.updateFrom
          generalize hPI : pyIter = PI
          unfold emptySet at *
          wp_walk
          subst hPI
          refine wpAny_pyIter_tuple tup (wpAny_bind (wpAny_runValue ?_))
          have hn3 : A.in1.in1.in1.handled = none := by simp [hh]
          have vals : ∀ (j : Nat) (v : Value), its[j]? = some v → ∃ t, v = .str (xs.getD j Str.empty) t := fun j v hv => SS.strs_at hi j v (by rw [Array.getElem?_toList]; exact hv)
          refine set_takes ((Walks.tuple hn3 _ l (by rw [Heap.size_push]; exact Nat.ne_of_lt (Nat.lt_succ_of_lt lS)) its).toS) (a := s.heap.objs.size) (by
            simp only [List.mem_cons, List.not_mem_nil, or_false, not_or]
            exact ⟨by rw [Heap.size_push]; exact (Nat.succ_ne_self _).symm, Nat.ne_of_gt lS⟩) sz.symm un (by omega) vals (its.size - 0) 0 _ (by omega) (Nat.zero_le _) ⟨⟨_, Heap.get?_push_size _ rfl, rfl, rfl⟩, tup.push _⟩ ?_ ?_
          · exact SetOf_congr ((setObjOf_fresh (knd := strKind p w) led).setOf (Heap.get?_push_of_some _ hS) (by decide)) (fun _ => by simp) rfl
          · rintro ⟨h', g', d', tk', os'⟩ mv se
            obtain rfl : g' = s.gens := mv.gens
            obtain rfl : d' = s.drawn := mv.drawn
            obtain rfl : os' = s.os := mv.os
            refine wpAny_pure (wpAny_pure ⟨rfl, h', tk', rfl, by rw [← sz]; exact se, fun b o hb e => mv.heap b o ?_ (Heap.get?_push_of_some _ (Heap.get?_push_of_some _ e))⟩)
            simp only [List.mem_cons, List.not_mem_nil, or_false, not_or]
            exact ⟨Nat.ne_of_lt hb, by rw [Heap.size_push]; exact Nat.ne_of_lt (Nat.lt_succ_of_lt hb)⟩
        · cases r2 with
          | error e => exact hr2
          | ok f2 =>
            cases f2 with
            | next => exact hr2.elim
            | brk => exact hr2.elim
            | cont => exact hr2.elim
            | ret v =>
              obtain ⟨rfl, h', tk, rfl, se, kp⟩ := hr2
              repeat (any_goals (first | assumption | wp_step))
              exact fin _ _ se kp)⟩))
end
end K2
end
section
set_option Elab.async false
set_option maxRecDepth 100000
set_option linter.all false
namespace K2
open PySem L2
abbrev sIsW : Stmt := top 18
abbrev sAreW : Stmt := top 19
/-- the module's constants -/
structure Gb (K : PySem.W.Frag) (mg : Str → Option Value) (aR : Addr) (t1 t2 : Tok) : Prop where
  long : mg "LONGEST" = some (.int 8 t1)
  most : mg "MOST_ROWS" = some (.int 30 t2)
  res : mg "RESERVED" = some (.ref aR)
  resT : ∀ H : Hp, SqT K H aR (resd.map V.str)
theorem uni : ∀ k, k < 26 → Unicode.isAlpha (97 + k) = true ∧ Unicode.isLower (97 + k) = true ∧ Unicode.isUpper (97 + k) = false ∧ Unicode.isTitle (97 + k) = false := by decide +kernel
theorem uni' {c : Nat} (h : 97 ≤ c ∧ c ≤ 122) : Unicode.isAlpha c = true ∧ Unicode.isLower c = true ∧ Unicode.isUpper c = false ∧ Unicode.isTitle c = false := by
  have := uni (c - 97) (by omega)
  rw [show 97 + (c - 97) = c by omega] at this
  exact this
theorem vw_ascii {x : Str} (h : VW x) : Txt.isascii x = true := by
  unfold Txt.isascii
  rw [← Array.all_toList, List.all_eq_true]
  intro c hc
  have := h.low c hc
  simp
  omega
theorem vw_alpha {x : Str} (h : VW x) : Txt.isalpha x = true := by
  unfold Txt.isalpha
  have hl : x.length > 0 := by
    rw [len_codes]
    exact List.length_pos_iff.mpr h.ne
  rw [← Array.all_toList, decide_eq_true hl, Bool.true_and, List.all_eq_true]
  intro c hc
  exact (uni' (h.low c hc)).1
theorem vw_lower {x : Str} (h : VW x) : Txt.islower x = true := by
  unfold Txt.islower
  rw [← Array.any_toList, ← Array.any_toList, Bool.and_eq_true]
  refine ⟨?_, ?_⟩
  · rw [List.any_eq_true]
    obtain ⟨c, r, e⟩ := List.exists_cons_of_ne_nil h.ne
    have hc : c ∈ x.cps.toList := by
      show c ∈ codes x
      rw [e]
      simp
    exact ⟨c, hc, (uni' (h.low c hc)).2.1⟩
  · rw [Bool.not_eq_true', List.any_eq_false]
    intro c hc
    have := uni' (h.low c hc)
    rw [this.2.2.1, this.2.2.2]
    decide
def spIsW : Sp := fun vs H Q _ => ∃ x : Str, vs = [.str x] ∧ VW x ∧ Q (.bl true) H
def spAreW : Sp := fun vs H Q _ => ∃ (t : Addr) (xs : List Str), vs = [.ref t] ∧ H t = some (.tup (xs.map V.str)) ∧ (∀ x ∈ xs, VW x) ∧ xs.length ≤ 100 ∧ ∀ H', Same H H' → Q (.bl true) H'
abbrev nAreW : List Str := ["xs", "x"]
section
variable {P : Program} {w : World} {K : PySem.W.Frag} {mg : Str → Option Value} {base : Heap}
theorem scIsW : FnScope ["x"] ["x"] (defScope sIsW) := ⟨rfl, rfl, rfl, by decide +kernel, rfl, by decide +kernel, by decide +kernel⟩
theorem ok_isw {f aR : Addr} {t1 t2 : Tok} {fd : FuncData} (F : Fun K "is_word" "is_word" sIsW f fd) (T : Bi mg) (G : Gb K mg aR t1 t2) : FnOk P w K mg base CX0 1 f fd ["x"] spIsW := by
  refine F.ok scIsW (fun vs H Q E h => ?_) (fun cdv A outer s H vs Q E hr h => ?_)
  · obtain ⟨x, rfl, _⟩ := h
    rfl
  · obtain ⟨x, rfl, hx, k⟩ := h
    refine ⟨_, (pss_cons (ps_if (PW.pt (pw_or (pt_not (pt_val (pe_callB call_isi (by rfl) T.isinstance (by decide +kernel) (pa_cons (pv 0) (pa_cons (pe_bltn (v := .ty "str") (by rfl) T.str (by decide +kernel) rfl) pa_nil))))) (pw_or1 (pt_cmpR op_gt (pe_callB call_len_str (by rfl) T.len PySem.boot_len (pa_cons (pv 0) pa_nil)) (pe_glob (v := .int 8) rfl G.long ⟨_, rfl⟩) (nomark _)))))
      (pss_one (ps_ret pe_bl))
      pss_nil)
      (pss_one (ps_ret (pe_and (pe_m0 PySem.F.slot_str_isascii PySem.F.type_str_isascii mt_isascii (pv 0)) (pe_and (pe_m0 PySem.F.slot_str_isalpha PySem.F.type_str_isalpha mt_isalpha (pv 0)) (pe_and (pe_m0 PySem.F.slot_str_islower PySem.F.type_str_islower mt_islower (pv 0)) (pe_one (pe_cmpR op_notIn_seq (pv 0) (pe_glob (v := .ref aR) rfl G.res rfl) rfl)))))))), ?_⟩
    have hl : x.length ≤ 8 := by rw [len_codes]; exact hx.le
    refine ⟨_, rfl, _, _, _, _, true, rfl, .ty _, .base (.str _), kit_ty (by decide +kernel), _, rfl, ?_⟩
    refine ⟨_, rfl, _, rfl, Nat.le_trans hl (by decide), _, _, rfl, rfl, _, rfl, ite2 (fun h8 => ?_) (fun _ => ?_)⟩
    · have := of_decide_eq_true h8
      omega
    refine ⟨_, rfl, ⟨_, rfl⟩, _, rfl, rfl, trivial, _, rfl, ?_⟩
    rw [vw_ascii hx]
    refine iteT ⟨_, rfl, ⟨_, rfl⟩, _, rfl, rfl, trivial, _, rfl, ?_⟩
    rw [vw_alpha hx]
    refine iteT ⟨_, rfl, ⟨_, rfl⟩, _, rfl, rfl, trivial, _, rfl, ?_⟩
    rw [vw_lower hx]
    refine iteT ⟨_, rfl, aR, _, rfl, .inr (G.resT H), rfl, flat_strs _, ?_⟩
    rw [if_pos rfl, inV_strs, decide_eq_false hx.nr]
    exact k
theorem scAreW : FnScope nAreW ["xs"] (defScope sAreW) := ⟨rfl, rfl, rfl, by decide +kernel, rfl, by decide +kernel, by decide +kernel⟩
theorem ok_arew {f fI : Addr} {fd fdI : FuncData} (F : Fun K "are_words" "are_words" sAreW f fd) (T : Bi mg) (IW : Df K mg "is_word" sIsW fI fdI ["x"]) (GI : FnOk P w K mg base CX0 1 fI fdI ["x"] spIsW) : FnOk P w K mg base CX0 2 f fd ["xs"] spAreW := by
  refine F.ok scAreW (fun vs H Q E h => ?_) (fun cdv A outer s H vs Q E hr h => ?_)
  · obtain ⟨t, xs, rfl, _⟩ := h
    rfl
  · obtain ⟨t, xs, rfl, ht, hx, hl, k⟩ := h
    have hr0 : Room 1 _ := hr
    refine ⟨_, (pss_one (ps_ret (pe_callB (cr_all rfl) (by rfl) T.all (by decide +kernel) (pa_cons (pe_lc (own := [("x", 1)]) (g := gName 1) (tt := tYes) rfl scAreW.nd (pi_tup (pv 0)) (blkOk_by (N := nAreW) (sc := defScope sAreW) (by decide +kernel)) (fun _ _ _ _ _ => pg_name (i := 1) scAreW.nd rfl (Or.inl rfl)) (fun _ _ _ _ _ => pts_nil) (fun _ _ _ _ _ => pe_call GI hr0 (by rfl) IW.m IW.F.kp IW.b .nil pass0 (pa_cons (pv 1) pa_nil))) pa_nil)))), ?_⟩
    refine ⟨_, rfl, t, rfl, ⟨_, SqT.of ht⟩, fun D hD => ?_⟩
    refine lc_tup (K := K) (a := t) (xs := xs.map V.str) (fun i Hc => Hc D = some (.lst ((List.replicate i true).map V.bl)) ∧ Same H Hc) ?_ ?_ ?_ ?_
    · exact ⟨upd_same, (Same.refl H).put hD⟩
    · rintro i Hc _ ⟨_, sm⟩
      exact SqT.of (sm t _ ht)
    · rintro i y Hc hy ⟨h1, sm⟩
      obtain ⟨x, hxm, rfl⟩ := List.mem_map.mp (List.mem_of_getElem? hy)
      have hil : i < xs.length := by
        have := (List.getElem?_eq_some_iff.mp hy).1
        rwa [List.length_map] at this
      refine ⟨rfl, _, rfl, x, rfl, hx x hxm, _, h1, ?_, ?_, sm.put hD⟩
      · rw [List.length_map, List.length_replicate]; show _ < 16777216; omega
      · rw [upd_same, List.replicate_succ', List.map_append]
        rfl
    · rintro Hc ⟨h1, sm⟩
      refine ⟨D, _, rfl, SqL.of h1, ?_⟩
      have : (List.replicate (xs.map V.str).length true).all id = true := by simp
      rw [this]
      exact k Hc sm
end
end K2
end
section
set_option Elab.async false
set_option maxRecDepth 100000
set_option linter.all false
namespace K2
open PySem L2
abbrev sAreD : Stmt := top 20
abbrev sFault : Stmt := top 24
abbrev sLine : Stmt := top 25
abbrev nLine : List Str := ["row", "lines", "line", "base", "name"]
abbrev nFault : List Str := ["row", "k", "lines", "bases", "base"]
/-- a dict of True for each name -/
def dkeys (us : List Str) : List (Key × V) := us.map fun u => ((Sum.inr u : Key), V.bl true)
def fD (us : List Str) : HO := .dK (dkeys us)
theorem dkeys_val (us : List Str) (x : Str) : valV (dkeys us) (Sum.inr x : Key) = if x ∈ us then some (.bl true) else none := by
  induction us with
  | nil => rfl
  | cons u us ih =>
    show valV (((Sum.inr u : Key), V.bl true) :: dkeys us) (Sum.inr x : Key) = _
    rw [valV_cons, ih]
    by_cases e : u = x
    · subst e; simp
    · have e2 : ¬ (Sum.inr u : Key) = Sum.inr x := fun q => e (Sum.inr.inj q)
      have e3 : ¬ x = u := fun q => e q.symm
      simp [e2, e3]
theorem dkeys_put (us : List Str) (x : Str) : putK (dkeys us) (Sum.inr x : Key) (.bl true) = dkeys (insK us x) := by
  unfold insK
  by_cases h : x ∈ us
  · rw [if_pos h]
    unfold putK
    rw [valV_any, dkeys_val, if_pos h]
    show (dkeys us).map _ = dkeys us
    unfold dkeys
    rw [List.map_map]
    apply List.map_congr_left
    intro u _
    show (if (Sum.inr u : Key) = Sum.inr x then _ else _) = _
    split <;> rfl
  · rw [if_neg h, putK_new _ (by rw [dkeys_val, if_neg h])]
    unfold dkeys
    rw [List.map_append]
    rfl
theorem dkeys_len (us : List Str) : (dkeys us).length = us.length := by simp [dkeys]
theorem insK_foldl_len (us m : List Str) : (us.foldl insK m).length ≤ m.length + us.length := by
  induction us generalizing m with
  | nil => simp
  | cons u us ih =>
    rw [List.foldl_cons]
    have := ih (insK m u)
    have h2 : (insK m u).length ≤ m.length + 1 := by
      unfold insK
      split
      · omega
      · simp
    rw [List.length_cons]
    omega
theorem merge1 (x : Str) (v : V) : mergeK [] [((Sum.inr x : Key), v)] = [((Sum.inr x : Key), v)] := by
  show putK [] (Sum.inr x : Key) v = _
  rw [putK_new v rfl]
  rfl
def spAreD : Sp := fun vs H Q _ => ∃ (t : Addr) (xs : List Str), vs = [.ref t] ∧ H t = some (.tup (xs.map V.str)) ∧ xs.Nodup ∧ xs.length ≤ 1000 ∧ Q (.bl true) H
def spLine : Sp := fun vs H Q _ => ∃ (t d : Addr) (r : Row) (kvs : List (Key × V)) (tb : Tb), vs = [.ref t, .ref d] ∧ H t = some (rowO r) ∧ H d = some (.dK kvs) ∧ Tab fD H kvs tb ∧ TOk tb ∧ RowOk (keys tb) r ∧ tb.length ≤ 40 ∧
  ∀ (m : Addr) (H' : Hp), H m = none → H' m = some (fD (lineOf tb r)) → Same H H' → Q (.ref m) H'
def spFault : Sp := fun vs H Q _ => ∃ (t d : Addr) (k : Nat) (r : Row) (kvs : List (Key × V)) (tb : Tb), vs = [.ref t, .int k, .ref d] ∧ k < 30 ∧ H t = some (rowO r) ∧ H d = some (.dK kvs) ∧ Tab fD H kvs tb ∧ TOk tb ∧ RowOk (keys tb) r ∧ (∀ x ∈ r.2, VW x) ∧ tb.length ≤ 40 ∧
  ∀ (H' : Hp), Same H H' → Q .non H'
section
variable {P : Program} {w : World} {K : PySem.W.Frag} {mg : Str → Option Value} {base : Heap}
theorem scLine : FnScope nLine ["row", "lines"] (defScope sLine) := ⟨rfl, rfl, rfl, by decide +kernel, rfl, by decide +kernel, by decide +kernel⟩
theorem scFault : FnScope nFault ["row", "k", "lines"] (defScope sFault) := ⟨rfl, rfl, rfl, by decide +kernel, rfl, by decide +kernel, by decide +kernel⟩
theorem ok_line {f : Addr} {fd : FuncData} (F : Fun K "_line" "_line" sLine f fd) : FnOk P w K mg base CX0 1 f fd ["row", "lines"] spLine := by
  refine F.ok scLine (fun vs H Q E h => ?_) (fun cdv A outer s H vs Q E hr h => ?_)
  · obtain ⟨t, d, r, kvs, tb, rfl, _⟩ := h
    rfl
  · obtain ⟨t, d, ⟨x, bs⟩, kvs, tb, rfl, ht, hd, TB, TO, RO, h40, k⟩ := h
    have hu := hu_of hr
    refine ⟨_, (pss_cons (ps_set (i := 2) scLine.nd rfl (Or.inl rfl) (pe_disp (pps_cons (pe_ix ix_tup (pv 0) pe_int (fun _ _ => rfl)) pe_bl pps_nil) (by rfl) (by rfl) (fun z => by cases z) (by decide)))
      (pss_cons (ps_for PassesOwn.never rfl (pi_tup (pe_slice sl_tup2 (pv 0) (po_some pe_int) po_none)) (pg_name (i := 3) scLine.nd rfl (Or.inl rfl))
      (pss_one (ps_lock (ps_for PassesOwn.never rfl (pi_keys (pe_dget hu (pv 1) (pv 3) (fun _ _ => rfl))) (pg_name (i := 4) scLine.nd rfl (Or.inl rfl))
        (pss_one (ps_dput hu (pv 2) (pv 4) pe_bl rfl))))))
      (pss_one (ps_ret (pv 2))))), ?_⟩
    have htl : tb.length = (keys tb).length := by simp [keys]
    have hll := fun j => line_len TO (x := x) (bs := bs.take j) fun b hb => RO.sub b (List.mem_of_mem_take hb)
    unfold rowO at ht
    refine fun m hm => ⟨_, rfl, t, _, _, _, rfl, rfl, SqT.of (by rw [upd_ne (ne_of_none ht hm)]; exact ht), atI_nat (j := 0) rfl, upd_same, [((Sum.inr x : Key), V.bl true)], rfl, (by show 1 ≤ 15; decide), ?_⟩
    rw [merge1, upd_upd]
    have sm : Same H (upd H m (.dK [((Sum.inr x : Key), V.bl true)])) := (Same.refl H).put hm
    have hm1 : (upd H m (.dK [((Sum.inr x : Key), V.bl true)])) m = some (fD [x]) := upd_same
    generalize upd H m (.dK [((Sum.inr x : Key), V.bl true)]) = H1 at sm hm1 ⊢
    refine ⟨_, rfl, _, rfl, t, _, rfl, sm t _ ht, fun rp H2 s2 hrp => ?_⟩
    rw [cut1'] at hrp
    refine ⟨rp, rfl, ⟨_, SqT.of hrp⟩, for_tup (K := K) (a := rp) (xs := bs.map V.str)
      (fun j σ Hd => ∃ (v3 v4 : Option V), σ = [some (.ref t), some (.ref d), some (.ref m), v3, v4] ∧ Same H Hd ∧ Hd rp = some (.tup (bs.map V.str)) ∧ Hd m = some (fD (lineL tb [x] (bs.take j)))) ?_ ?_ ?_ ?_⟩
    · exact ⟨_, _, rfl, sm.trans s2, hrp, s2 m _ hm1⟩
    · rintro j σ Hd _ ⟨v3, v4, rfl, _, hr2, _⟩
      exact SqT.of hr2
    · rintro j y σ Hd hj ⟨v3, v4, rfl, sd, hr2, hmd⟩
      have hjl : j < bs.length := by
        have := (List.getElem?_eq_some_iff.mp hj).1
        rwa [List.length_map] at this
      have hbj : bs[j]? = some bs[j] := List.getElem?_eq_getElem hjl
      rw [List.getElem?_map, hbj] at hj
      cases hj
      obtain ⟨u, hu1, hu2⟩ := TB.val (RO.sub bs[j] (List.getElem_mem hjl))
      have q := TO.line (RO.sub bs[j] (List.getElem_mem hjl))
      have husl : (look tb bs[j]).length ≤ (keys tb).length := q.1.length_le_of_subset q.2.2.2
      have hun := q.1
      have hsucc := lineL_take (t := tb) (m := [x]) hbj
      have hl1 := hll j
      have hmu : u ≠ m := ne_of_none hu2 hm
      have hud := sd u _ hu2
      have hdd := sd d _ hd
      generalize look tb bs[j] = us at hu2 hud hsucc husl hun
      generalize lineL tb [x] (bs.take j) = mine at hmd hsucc hl1
      -- for name in lines[base]: the dict at u is locked
      refine ⟨u, fD us, hud, True.intro, fun od => ?_⟩
      have hmf : m ≠ u := hmu.symm
      have hget : ∀ hq : Hp, (∀ b, b ≠ u → b ≠ m → hq b = Hd b) → (d = u → hq u = some (.frz od (fD us))) → True := fun _ _ _ => trivial
      have hD2 : DGet (upd Hd u (.frz od (fD us))) d (.str bs[j]) (some (.ref u)) := by
        by_cases e : d = u
        · subst e
          rw [hdd] at hud
          have e2 := Option.some.inj hud
          refine .inl ⟨kvs, Sum.inr bs[j], .inr ⟨od, ?_⟩, rfl, hu1.symm⟩
          rw [upd_same, e2]
        · exact dget_s (by rw [upd_ne e]; exact hdd) hu1
      refine ⟨_, rfl, _, rfl, d, _, rfl, hD2, u, od, rfl, .inl ⟨dkeys us, upd_same, for_it walk_keys
        (fun i σ Hx => ∃ v4 : Option V, σ = [some (.ref t), some (.ref d), some (.ref m), some (.str bs[j]), v4] ∧ Hx u = some (.frz od (fD us)) ∧ Hx m = some (fD ((us.take i).foldl insK mine)) ∧ ∀ b o, Hd b = some o → b ≠ m → b ≠ u → Hx b = some o) ?_ ?_ ?_ ?_⟩⟩
      · exact ⟨_, rfl, upd_same, by rw [upd_ne hmf]; exact hmd, fun b o hb _ h2 => by rw [upd_ne h2]; exact hb⟩
      · rintro i σ Hx _ ⟨v4, rfl, hx, _, _⟩
        exact hx
      · rintro i y σ Hx Hy hi ⟨v4, rfl, hx, hmx, kx⟩ ⟨rfl, kk, vv, hkv, rfl⟩
        rw [dkeys_len] at hi
        have hui : us[i]? = some us[i] := List.getElem?_eq_getElem hi
        unfold dkeys at hkv
        rw [List.getElem?_map, hui] at hkv
        cases hkv
        have hfl := insK_foldl_len (us.take i) mine
        rw [List.length_take] at hfl
        refine ⟨_, rfl, _, rfl, m, _, rfl, DPut.k (k := Sum.inr us[i]) hmx ?_, ?_⟩
        · rw [dkeys_len]; show _ < 16777216; omega
        · refine ⟨_, rfl, by rw [upd_ne hmu]; exact hx, ?_, fun b o hb h1 h2 => by rw [upd_ne h1]; exact kx b o hb h1 h2⟩
          have et : us.take (i + 1) = us.take i ++ [us[i]] := by rw [List.take_add_one, hui]; rfl
          rw [upd_same, dkeys_put, et, List.foldl_append]
          rfl
      · rintro σ Hx ⟨v4, rfl, hx, hmx, kx⟩
        rw [dkeys_len, List.take_length, foldl_insK _ _ hun] at hmx
        have back : ∀ b o, Hd b = some o → b ≠ m → (upd Hx u (fD us)) b = some o := fun b o hb h1 => by
          by_cases e : b = u
          · subst e
            rw [hud] at hb
            rw [upd_same]
            exact hb
          · rw [upd_ne e]
            exact kx b o hb h1 e
        refine ⟨hx, _, _, rfl, fun b o hb => back b o (sd b o hb) (ne_of_none hb hm), back rp _ hr2 ?_, ?_⟩
        · exact ne_of hr2 hmd (by unfold fD; intro z; cases z)
        · rw [upd_ne hmf, hmx, hsucc]
    · rintro σ Hd ⟨v3, v4, rfl, sd, hr2, hmd⟩
      rw [List.length_map, List.take_length] at hmd
      exact ⟨_, rfl, k m Hd hm hmd sd⟩
end
end K2
end
section
set_option Elab.async false
set_option maxRecDepth 100000
set_option linter.all false
namespace K2
open PySem PySem.Spec PyProof.Rows L2
def tLenSetT (ta : TE) : TE := fun σ H Q => ta σ H fun x H1 => ∃ (l : Addr) (xs : List Str), x = .ref l ∧ H1 l = some (.tup (xs.map V.str)) ∧ xs.Nodup ∧ xs.length ≤ 1000 ∧ Q (.int (xs.length : Nat)) H1
section
variable {X : Cx}
/-- len(set(t)), t a tuple of unlike texts -/
theorem pe_lenSetT {a : Expr} {ta : TE} {p1 p2 p3 pos : Pos} (h1 : Gl X "len") (h2 : X.mg "len" = none) (h3 : Gl X "set") (h4 : X.mg "set" = none) (ha : PE X a ta) (hc : X.calm = true := by rfl)
    (na : starEach [a] X.env = (false, eval a X.env) :: starEach [] X.env := by rfl) : PE X (.Call (.Name "len" p1) [.Call (.Name "set" p2) [a] [] p3] [] pos) (tLenSetT ta) := by
  refine ⟨fun pins s σ H Q I h => Call_ (ld_blt I h1 h2 boot_len (callWith_builtin1 (args_cons (Call_ (ld_blt I h3 h4 boot_set (callWith_type1 (args_cons (thn (ha.run pins s σ H _ I h) fun v s1 ⟨x, H1, I1, r1, q1⟩ => args_nil ?_) na) na rfl))) rfl) rfl rfl))⟩
  obtain ⟨l, xs, rfl, ht, un, few, q⟩ := q1
  cases r1
  obtain ⟨its, r, pl, _⟩ := I1.tuple (SqT.of ht)
  refine set_of_tup (I1.ok.hd hc) pl (by simpa using strsAre_of r) un few fun h' tk hS hk => args_nil ?_
  obtain ⟨o, es, ep, t, ho, hex, hd, _, _, _, hf, hn⟩ := hS
  have I2 : Inv X pins σ H1 { s1 with heap := h', toks := tk } := I1.kept fun b o e => hk b o (Heap.lt_size e) e
  exact call_len_set ho hex hd hf (by rw [hn]; omega) ⟨.int xs.length, H1, I2.tok _, ⟨_, by rw [hn]⟩, q⟩
end
section
variable {P : Program} {w : World} {K : PySem.W.Frag} {mg : Str → Option Value} {base : Heap}
theorem scAreD : FnScope ["words"] ["words"] (defScope sAreD) := ⟨rfl, rfl, rfl, by decide +kernel, rfl, by decide +kernel, by decide +kernel⟩
theorem ok_ared {f : Addr} {fd : FuncData} (F : Fun K "are_different" "are_different" sAreD f fd) (T : Bi mg) : FnOk P w K mg base CX0 1 f fd ["words"] spAreD := by
  refine F.ok scAreD (fun vs H Q E h => ?_) (fun cdv A outer s H vs Q E hr h => ?_)
  · obtain ⟨t, xs, rfl, _⟩ := h
    rfl
  · obtain ⟨t, xs, rfl, ht, un, few, k⟩ := h
    refine ⟨_, pss_one (ps_ret (pe_cmpR op_eq (pe_lenSetT (by rfl) T.len (by rfl) T.set (pv 0)) (pe_callB call_len_seq (by rfl) T.len PySem.boot_len (pa_cons (pv 0) pa_nil)) (nomark _))), ?_⟩
    refine ⟨_, rfl, t, xs, rfl, ht, un, few, _, rfl, t, _, rfl, .inr (SqT.of ht), rfl, ?_⟩
    rw [List.length_map, decide_eq_true rfl]
    exact k
end
end K2
end
section
set_option Elab.async false
set_option maxRecDepth 100000
set_option linter.all false
namespace K2
open PySem L2
section
variable {P : Program} {w : World} {K : PySem.W.Frag} {mg : Str → Option Value} {base : Heap}
theorem ok_fault {f fA fF aR : Addr} {fd fdA fdF : FuncData} {t1 t2 : Tok} (F : Fun K "_fault" "_fault" sFault f fd) (T : Bi mg) (G : Gb K mg aR t1 t2) (AW : Df K mg "are_words" sAreW fA fdA ["xs"]) (GA : FnOk P w K mg base CX0 2 fA fdA ["xs"] spAreW)
    (AD : Df K mg "are_different" sAreD fF fdF ["words"]) (GF : FnOk P w K mg base CX0 1 fF fdF ["words"] spAreD) : FnOk P w K mg base CX0 3 f fd ["row", "k", "lines"] spFault := by
  refine F.ok scFault (fun vs H Q E h => ?_) (fun cdv A outer s H vs Q E hr h => ?_)
  · obtain ⟨t, d, k, r, kvs, tb, rfl, _⟩ := h
    rfl
  · obtain ⟨t, d, n, ⟨x, bs⟩, kvs, tb, rfl, hn, ht, hd, TB, TO, RO, hvw, h40, k⟩ := h
    have hu := hu_of hr
    have hr2 : Room 2 _ := hr
    have hr1 : Room 1 _ := hr.mono (by decide)
    refine ⟨_, (pss_cons (ps_if (pt_cmpR op_eq (pv 1) (pe_glob (v := .int 30) rfl G.most ⟨_, rfl⟩) (nomark _))
      (pss_one (ps_ret pe_str))
      pss_nil)
      (pss_cons (ps_if (PW.pt (pw_or (pt_not (pt_val (pe_callB call_isi (by rfl) T.isinstance (by decide +kernel) (pa_cons (pv 0) (pa_cons (pe_bltn (v := .ty "tuple") (by rfl) T.tuple (by decide +kernel) rfl) pa_nil))))) (pw_or (pt_cmpR op_lt (pe_callB call_len_seq (by rfl) T.len PySem.boot_len (pa_cons (pv 0) pa_nil)) pe_int (nomark _)) (pw_or1 (pt_not (pt_val (pe_call GA hr2 (by rfl) AW.m AW.F.kp AW.b .nil pass0 (pa_cons (pv 0) pa_nil))))))))
      (pss_one (ps_ret pe_str))
      pss_nil)
      (pss_cons (ps_if (pt_cmp (pc_din hu (pe_ix ix_tup (pv 0) pe_int (fun _ _ => rfl)) (pv 2)))
      (pss_one (ps_ret pe_str))
      pss_nil)
      (pss_cons (ps_set (i := 3) scFault.nd rfl (Or.inl rfl) (pe_slice sl_tup2 (pv 0) (po_some pe_int) po_none))
      (pss_cons (ps_if (PW.pt (pw_or (pt_not (pt_val (pe_callB (cr_all rfl) (by rfl) T.all (by decide +kernel) (pa_cons (pe_lc (own := [("base", 4)]) (g := gName 4) (tt := tYes) rfl scFault.nd (pi_tup (pv 3)) (blkOk_by (N := nFault) (sc := defScope sFault) (by decide +kernel)) (fun _ _ _ _ _ => pg_name (i := 4) scFault.nd rfl (Or.inl rfl)) (fun _ _ _ _ _ => pts_nil) (fun _ _ _ _ _ => pe_cmp (pc_din hu (pv 4) (pv 2)) rfl)) pa_nil)))) (pw_or1 (pt_not (pt_val (pe_call GF hr1 (by rfl) AD.m AD.F.kp AD.b .nil pass0 (pa_cons (pv 3) pa_nil)))))))
      (pss_one (ps_ret pe_str))
      pss_nil)
      (pss_one (ps_ret pe_non))))))), ?_⟩
    have htl : tb.length = (keys tb).length := by simp [keys]
    have hbl : bs.length ≤ 40 := by
      have q : bs.length ≤ (keys tb).length := RO.nd.length_le_of_subset (RO.sub)
      omega
    have hb0 : 1 ≤ bs.length := List.length_pos_iff.mpr RO.ne
    unfold rowO at ht
    refine ⟨_, rfl, rfl, _, rfl, ite2 (fun h0 => ?_) (fun _ => ?_)⟩
    · have e : (n : Int) = 30 := V.int.inj (of_decide_eq_true h0)
      omega
    refine ⟨_, rfl, _, _, _, _, true, rfl, .ty _, .base (.tup ht), kit_ty (by decide +kernel), _, rfl, ?_⟩
    refine ⟨_, rfl, t, _, rfl, .inr (SqT.of ht), _, _, rfl, rfl, _, rfl, ite2 (fun h0 => ?_) (fun _ => ?_)⟩
    · have := of_decide_eq_true h0
      rw [List.length_map, List.length_cons] at this
      have h1 : 1 ≤ (x, bs).snd.length := hb0
      omega
    refine ⟨_, rfl, t, _, rfl, ht, ?_, ?_, fun H1 s1 => ⟨_, rfl, ?_⟩⟩
    · intro y hy
      rcases List.mem_cons.mp hy with rfl | hy
      · exact RO.vw
      · exact hvw y hy
    · show bs.length + 1 ≤ 100
      omega
    refine ⟨_, rfl, t, _, _, _, rfl, rfl, SqT.of (s1 t _ ht), atI_nat (j := 0) rfl, _, rfl, d, _, rfl, DGet.k (k := Sum.inr x) (s1 d _ hd), _, rfl, ?_⟩
    rw [TB.none RO.new]
    refine ⟨_, rfl, _, rfl, t, _, rfl, s1 t _ ht, fun bp H2 s2 hbp => ?_⟩
    rw [cut1'] at hbp
    have s12 := s1.trans s2
    refine ⟨_, rfl, bp, rfl, ⟨_, SqT.of hbp⟩, fun D hD => ?_⟩
    refine lc_tup (K := K) (a := bp) (xs := bs.map V.str) (fun i Hc => Hc D = some (.lst ((List.replicate i true).map V.bl)) ∧ Same H2 Hc) ?_ ?_ ?_ ?_
    · exact ⟨upd_same, (Same.refl H2).put hD⟩
    · rintro i Hc _ ⟨_, sm⟩
      exact SqT.of (sm bp _ hbp)
    · rintro i y Hc hy ⟨h1, sm⟩
      obtain ⟨b, hb, rfl⟩ := List.mem_map.mp (List.mem_of_getElem? hy)
      have hil : i < bs.length := by
        have := (List.getElem?_eq_some_iff.mp hy).1
        rwa [List.length_map] at this
      obtain ⟨u, hu1, _⟩ := TB.val (RO.sub b hb)
      refine ⟨rfl, _, rfl, _, rfl, d, _, rfl, DGet.k (k := Sum.inr b) (sm d _ (s12 d _ hd)), _, h1, ?_, ?_, sm.put hD⟩
      · rw [List.length_map, List.length_replicate]; show _ < 16777216; omega
      · rw [upd_same, List.replicate_succ', List.map_append, hu1]
        rfl
    · rintro Hc ⟨h1, sm⟩
      refine ⟨D, _, rfl, SqL.of h1, _, rfl, ?_⟩
      have e : (List.replicate (bs.map V.str).length true).all id = true := by simp
      rw [e]
      refine ⟨_, rfl, bp, bs, rfl, sm bp _ hbp, RO.nd, by omega, _, rfl, ?_⟩
      exact k Hc (s12.trans sm)
end
end K2
end
section
set_option Elab.async false
set_option maxRecDepth 100000
set_option linter.all false
namespace K2
open PySem PySem.Spec PyProof.Rows L2
/-! enumerate(t) of a tuple -/
def enumO (i : Addr) : Obj := { cls := .type "enumerate", data := .fields #[.none, .bool false, .ref i, rawInt 0, .none, .none] }
set_option maxHeartbeats 1000000 in
theorem enum_made {v : Value} {o : Obj} {B : Heap → Prop} (b : Begins v o B) :
    Meets (Builtin.«enumerate.__new__» ⟨[.type "enumerate", v], []⟩) (fun _ R s => B s.heap ∧ R (.ok (.ret (.ref (s.heap.push o).objs.size))) { s with heap := (s.heap.push o).push (enumO s.heap.objs.size) }) :=
  .of_wp fun prog w A R ⟨hp, g, d, tk, os⟩ ⟨h1, h⟩ => by
    have q0 := sub_enumerate
    have q1 : ∀ {A' : Around} {E : Value → Shared → Prop} {Q : Value → Shared → Prop}, Q (.ref hp.objs.size) ⟨hp.push o, g, d, tk, os⟩ → wpAny (model prog w) A' (pyIter v) Q E ⟨hp, g, d, tk, os⟩ := fun q => b.iter prog w _ _ ⟨hp, g, d, tk, os⟩ _ h1 q
    wp_walk using q1
    refine wpAny_stack_any fun st => wpAny_pure ?_
    split
    · rename_i c _ _ _ _ _
      cases (c == Value.type "enumerate") <;> (wp_walk using q1; exact ⟨_, rfl, h⟩)
    · wp_walk using q1
      exact ⟨_, rfl, h⟩
section
variable {prog : Program} {w : World} {A : Around} {E : Value → Shared → Prop} {s : Shared}
theorem enum_call {v : Value} {o : Obj} {B : Heap → Prop} {Q : Value → Shared → Prop} (b : Begins v o B) (h1 : B s.heap)
    (h : ∀ h', IsEnum h' (s.heap.objs.size + 1) s.heap.objs.size 0 .none → h'.get? s.heap.objs.size = some o → (∀ a u, s.heap.get? a = some u → h'.get? a = some u) → Q (.ref (s.heap.objs.size + 1)) { s with heap := h' }) :
    wpAny (model prog w) A (call (.type "enumerate") [v]) Q E s := by
  refine callType_new F.called_enumerate (by decide) (F.typeCall_enumerate_1 _) (F.newCall_enumerate_1 _) (fun obj => F.args_object_init_2 obj _) F.entry_enumerate_new (enum_made b) ⟨h1, ?_⟩
  have sz : (s.heap.push o).objs.size = s.heap.objs.size + 1 := Heap.size_push ..
  have at1 := Heap.get?_push_size (s.heap.push o) (o := enumO s.heap.objs.size) rfl
  rw [sz] at at1
  show _ ∧ _
  rw [sz]
  exact ⟨⟨_, at1, rfl⟩, h _ at1 (Heap.get?_push_of_some _ (Heap.get?_push_size _ b.free)) fun a u x => Heap.get?_push_of_some _ (Heap.get?_push_of_some _ x)⟩
end
/-- the items of the tuple at a, each in a new pair with its number -/
def IteT (a : Addr) (xs : List V) : It :=
  ⟨fun i H => H a = some (.tup xs) ∧ i < xs.length, fun i H v H' => ∃ T x, v = .ref T ∧ H T = none ∧ H' = upd H T (.tup [.int (i : Nat), x]) ∧ xs[i]? = some x, fun i H => H a = some (.tup xs) ∧ i = xs.length⟩
def tnE (e it t : Addr) (i : Nat) (h : Heap) : Prop := (∃ old, IsEnum h e it (0 + ((i : Nat) : Int)) old) ∧ h.IsTupleIter it t i ∧ e ≠ it ∧ t ≠ it ∧ e ≠ t
theorem turn_enumT {P : Program} {w : World} {K : PySem.W.Frag} {elts : List Expr} {kk : Nat} {tpos : Pos} (xs : List V) (t e it : Addr) : Turn P w K (.Tuple elts kk tpos) (IteT t xs) [e, it] e (tnE e it t) where
  mem := by simp
  obj := fun i h ⟨⟨old, he⟩, ⟨o, ho, hc, hd⟩, _⟩ b hb => by
    rcases List.mem_cons.mp hb with z | z
    · subst z; exact ⟨_, he, fun v q => nomatch q⟩
    · rw [List.mem_singleton.mp z]; exact ⟨o, ho, fun v q => by rw [hd] at q; cases q⟩
  keep := fun i h h' ⟨⟨old, he⟩, hi, n1, n2, n3⟩ k => ⟨⟨old, k e (by simp) _ he⟩, hi.at fun o q => k it (by simp) o q, n1, n2, n3⟩
  item := by
    rintro X rfl rfl rfl hc i pins s σ H E I hf ⟨he, hi, n1, n2, n3⟩ ⟨ha, hlt⟩
    obtain ⟨its, rv, pl, _⟩ := I.tuple (SqT.of ha)
    have sz : its.toArray.size = xs.length := by rw [List.size_toArray, rv.length]
    have W := WalksT.enumFrom (prog := X.prog) (w := X.w) (A := X.A) 0 (Draws.tuple (A := X.A.in1) (by simp [I.ok.hd hc]) it t n2 its.toArray) e n1 (by simp [n1, n3]) (by simp)
    refine W.item i s _ _ (by rw [sz]; exact hlt) ⟨he, hi, pl⟩ fun T vals h' tk ⟨tt, x, hx, ev⟩ hT hTup mid fr => ⟨_, rfl, W.go elts kk tpos i T _ _ _ mid fun h'' ⟨he2, hi2, _⟩ fr2 => ?_⟩
    have hx2 : its[i]? = some x := by simpa using hx
    obtain ⟨y, hy, ry⟩ : ∃ y, xs[i]? = some y ∧ RelV y x := by
      have q : xs[i]? = some xs[i] := List.getElem?_eq_getElem hlt
      obtain ⟨u, hu, ru⟩ := rv.get q
      rw [hx2] at hu
      cases hu
      exact ⟨_, q, ru⟩
    have hTw := W.apart i T _ mid
    have hTf : H T = none := I.hok.fresh hT
    obtain ⟨o2, ho2, hc2, nn, hd2⟩ := hTup
    have new : ObjOk X.prog X.w (upd H T (.tup [.int (i : Nat), y])) h'' T (.tup [.int (i : Nat), y]) :=
      ⟨by show 2 ≤ sizeLine; decide, [.int (i : Nat) tt, x], .cons ⟨_, rfl⟩ (.cons ry .nil), ⟨o2, fr2 T o2 hTw ho2, hc2, nn, by rw [hd2, ev, Int.zero_add]⟩⟩
    refine ⟨.ref T, _, I.turnedNew (ch := [e, it]) (fun b ob hb q => fr2 b ob hb (fr b ob hb q)) hf hT new, rfl, ⟨T, y, rfl, hTf, rfl, hy⟩, ⟨he2, hi2, n1, n2, n3⟩, fun b hb => ?_⟩
    rw [upd_ne fun z : b = T => hTw (z ▸ hb)]
    exact (hf b hb).1
  done := by
    rintro X rfl rfl rfl hc i pins s σ H E I hf ⟨he, hi, n1, n2, n3⟩ ⟨ha, hle⟩
    obtain ⟨its, rv, pl, _⟩ := I.tuple (SqT.of ha)
    have sz : its.toArray.size = i := by rw [List.size_toArray, ← rv.length, hle]
    have W := WalksT.enumFrom (prog := X.prog) (w := X.w) (A := X.A) 0 (Draws.tuple (A := X.A.in1) (by simp [I.ok.hd hc]) it t n2 its.toArray) e n1 (by simp [n1, n3]) (by simp)
    rw [sz] at W
    exact W.done s _ _ ⟨he, hi, pl⟩ fun h' tk fr => ⟨rfl, I.turnedL (ch := [e, it]) fr hf⟩
  self := fun A i s Q E ⟨⟨_, he⟩, _⟩ h => wpAny_pyIter_enum he h
def iEnumT (ta : TA) : TI := fun σ H R => ta σ H fun vs H1 => ∃ a xs, vs = [.ref a] ∧ H1 a = some (.tup xs) ∧ R (IteT a xs) H1
theorem pi_enumT {X : Cx} {e : Expr} {ta : TA} {p pos tpos : Pos} {elts : List Expr} {kk : Nat} (hg : Gl X "enumerate") (hm : X.mg "enumerate" = none) (ha : PA X [e] ta) (hs : starEach [e] X.env = [(false, eval e X.env)] := by rfl) :
    PI X (.Tuple elts kk tpos) (.Call (.Name "enumerate" p) [e] [] pos) (iEnumT ta) := by
  refine ⟨fun pins s σ H R I h => Call_ (ld_blt I hg hm boot_enumerate (callWith_type1 (thn (ha.run pos pins s σ H _ I h) fun us s1 ⟨vs, H1, I1, r1, q1⟩ => ?_) hs rfl))⟩
  obtain ⟨a, xs, rfl, ht, q⟩ := q1
  cases r1 with
  | cons r rr =>
    cases rr
    cases r
    obtain ⟨its, rv, pl, _⟩ := I1.tuple (SqT.of ht)
    have al : a < s1.heap.objs.size := by obtain ⟨_, z, _⟩ := pl; exact Heap.lt_size z
    refine enum_call (begins_tuple a its.toArray) pl fun h' he hit hk => wpAny_pyIter_enum he ⟨s1.heap.objs.size + 1, [s1.heap.objs.size + 1, s1.heap.objs.size], _, _, H1, rfl, I1.kept (t' := s1.toks) hk, turn_enumT xs a (s1.heap.objs.size + 1) s1.heap.objs.size,
      ⟨⟨.none, he⟩, ⟨_, hit, rfl, rfl⟩, Nat.succ_ne_self _, Nat.ne_of_lt al, Nat.ne_of_gt (Nat.lt_succ_of_lt al)⟩, fun b hb => ?_, q⟩
    have le : s1.heap.objs.size ≤ b := by
      rcases List.mem_cons.mp hb with z | z
      · rw [z]; exact Nat.le_succ _
      · rw [List.mem_singleton.mp z]; exact Nat.le_refl _
    exact I1.fpOk le (I1.hok.fresh le)
theorem walk_enumT (a : Addr) (xs : List V) : Walk (IteT a xs) xs.length (fun H => H a = some (.tup xs)) (fun i H v H' => ∃ T x, v = .ref T ∧ H T = none ∧ H' = upd H T (.tup [.int (i : Nat), x]) ∧ xs[i]? = some x) :=
  ⟨fun i H hi h => ⟨h, hi⟩, fun H h => ⟨h, rfl⟩, fun i H x H' _ _ y => y⟩
end K2
end
section
set_option Elab.async false
set_option maxRecDepth 100000
set_option linter.all false
namespace K2
open PySem L2
abbrev sInit : Stmt := inClass (top 23) 0
abbrev sMade : Stmt := inClass (top 23) 2
abbrev sWithin : Stmt := inClass (top 23) 6
abbrev nInit : List Str := ["self", "rows", "lines", "k", "row", "reason"]
def flds (r n l : Addr) : List (Str × V) := putF "_lines" (.ref l) (putF "names" (.ref n) (putF "rows" (.ref r) []))
theorem k1_ : ¬ (("rows" : Str) = "names") := by decide +kernel
theorem k2_ : ¬ (("rows" : Str) = "_lines") := by decide +kernel
theorem k3_ : ¬ (("names" : Str) = "_lines") := by decide +kernel
theorem flds_lines (r n l : Addr) : (flds r n l).lookup ("_lines" : Str) = some (.ref l) := by
  unfold flds
  rw [lookup_putF, if_pos rfl]
theorem flds_no (r n l : Addr) {m : Str} (h1 : ¬ m = "_lines") (h2 : ¬ m = "names") (h3 : ¬ m = "rows") : (flds r n l).lookup m = none := by
  unfold flds
  rw [lookup_putF, if_neg h1, lookup_putF, if_neg h2, lookup_putF, if_neg h3]
  rfl
theorem merge2' (v1 v2 : V) : mergeK [] [((Sum.inr (Str.ofString "vacant") : Key), v1), ((Sum.inr (Str.ofString "error") : Key), v2)] = [((Sum.inr (Str.ofString "vacant") : Key), v1), ((Sum.inr (Str.ofString "error") : Key), v2)] := by
  show putK (putK [] (Sum.inr (Str.ofString "vacant") : Key) v1) (Sum.inr (Str.ofString "error") : Key) v2 = _
  rw [putK_new v1 rfl, putK_new v2 (by
    rw [List.nil_append, valV_cons, if_neg (by decide +kernel)]
    rfl)]
  rfl
/-- Classes stand at p, and know what is within what -/
def ClsAt (C : Addr) (H : Hp) (p : Addr) (tb : Tb) : Prop := ∃ (dx r n l : Addr) (kvs : List (Key × V)), H p = some (.ins C dx (flds r n l)) ∧ H l = some (.dK kvs) ∧ Tab fD H kvs tb
/-- Classes stand at p, made of these rows -/
def ClsW (C : Addr) (H : Hp) (p : Addr) (rs : List Row) : Prop := ∃ (dx r n l : Addr) (kvs : List (Key × V)) (ts : List Addr), H p = some (.ins C dx (flds r n l)) ∧ H l = some (.dK kvs) ∧ Tab fD H kvs (ups rs) ∧ H n = some (.tup ((keys (ups rs)).map V.str)) ∧ H r = some (.tup (ts.map V.ref)) ∧ RowsAt H ts rs
theorem ClsW.at {C p : Addr} {H : Hp} {rs : List Row} (h : ClsW C H p rs) : ClsAt C H p (ups rs) := by
  obtain ⟨dx, r, n, l, kvs, ts, h1, h2, h3, _⟩ := h
  exact ⟨dx, r, n, l, kvs, h1, h2, h3⟩
theorem keys_vals {f : List Str → HO} {H : Hp} {kvs : List (Key × V)} {t : Tb} (TB : Tab f H kvs t) : kvs.map (fun e => kV e.1) = (keys t).map V.str := by
  have := congrArg (List.map kV) TB.keys_eq
  rw [List.map_map, List.map_map] at this
  exact this
theorem flds_names (r n l : Addr) : (flds r n l).lookup ("names" : Str) = some (.ref n) := by
  unfold flds
  rw [lookup_putF, if_neg k3_, lookup_putF, if_pos rfl]
theorem flds_rows (r n l : Addr) : (flds r n l).lookup ("rows" : Str) = some (.ref r) := by
  unfold flds
  rw [lookup_putF, if_neg k2_, lookup_putF, if_neg k1_, lookup_putF, if_pos rfl]
theorem Tab.monoM {f : List Str → HO} {H H' : Hp} {kvs : List (Key × V)} {t : Tb} (h : Tab f H kvs t) (k : ∀ a us, (∃ y, (y, V.ref a) ∈ kvs) → H a = some (f us) → H' a = some (f us)) : Tab f H' kvs t := by
  induction h with
  | nil => exact .nil
  | cons h1 _ ih => exact .cons (k _ _ ⟨_, List.mem_cons_self⟩ h1) (ih fun a us ⟨y, hy⟩ => k a us ⟨y, List.mem_cons_of_mem _ hy⟩)
structure Txt (K : PySem.W.Frag) (mg : Str → Option Value) (C : Addr) : Prop where
  cl : Cls K C
  nR : NoAttr K C "rows"
  nN : NoAttr K C "names"
  nL : NoAttr K C "_lines"
  mgC : mg "Classes" = some (.ref C)
def spInit (C : Addr) : Sp := fun vs H Q _ => ∃ (p dx rt : Addr) (ts : List Addr) (rs : List Row), vs = [.ref p, .ref rt] ∧ H p = some (.ins C dx []) ∧ H rt = some (.tup (ts.map V.ref)) ∧ RowsAt H ts rs ∧ Good rs ∧ rs.length ≤ 30 ∧
  ∀ (H' : Hp), ClsW C H' p rs → (∀ b o, H b = some o → b ≠ p → H' b = some o) → Q .non H'
theorem init_bind (kV doc pm : Value) (an : Option Addr) (cdv ct : Value) : ∀ us rest : List Value, us.length = ["self"].length → bindArgs (PySem.W.fnOf "__init__" "Classes.__init__" (defArgs sInit) (defBody sInit) (defScope sInit) .none kV doc pm an cdv ct) ⟨us ++ rest, []⟩ = (newTuple rest >>= fun t => pure (([("self" : Str)]).zip us ++ [(("rows" : Str), t)])) :=
  StX.bind_star1 (B := fun l => bindArgs (PySem.W.fnOf "__init__" "Classes.__init__" (defArgs sInit) (defBody sInit) (defScope sInit) .none kV doc pm an cdv ct) ⟨l, []⟩) (fun a => rfl) (fun a r rs => rfl)
section
variable {P : Program} {w : World} {K : PySem.W.Frag} {mg : Str → Option Value} {base : Heap}
theorem scInit : FnScope nInit ["self", "rows"] (defScope sInit) := ⟨rfl, rfl, rfl, by decide +kernel, rfl, by decide +kernel, by decide +kernel⟩
theorem ok_init {f C fF fL : Addr} {fd fdF fdL : FuncData} (F : Fun K "__init__" "Classes.__init__" sInit f fd) (X : Txt K mg C) (T : Bi mg) (FA : Df K mg "_fault" sFault fF fdF ["row", "k", "lines"]) (GF : FnOk P w K mg base CX0 3 fF fdF ["row", "k", "lines"] spFault)
    (LI : Df K mg "_line" sLine fL fdL ["row", "lines"]) (GL : FnOk P w K mg base CX0 1 fL fdL ["row", "lines"] spLine) :
    FnR P w K mg base CX0 4 f (fun vs H Q E => ∃ ws rest, vs = ws ++ rest ∧ ws.length = 1 ∧ rest.length ≤ sizeLine ∧ ∀ p, H p = none → spInit C (ws ++ [V.ref p]) (upd H p (.tup rest)) Q E) := by
  obtain ⟨oc, od, kV, doc, pm, an, cdv, ct, osl, rfl, lk, hcd⟩ := F.ex
  refine StX.fn_star (ps := ["self"]) (pv := "rows") lk hcd scInit StX.cxUp_none (init_bind kV doc pm an cdv ct) fun A outer s H vs Q E hr h => ?_
  obtain ⟨p, dx, rt, ts, rs, rfl, hp, ht, R, g, h30, k⟩ := h
  have hr2 : Room 3 _ := hr
  have hr0 : Room 1 _ := hr.mono (by decide)
  have hu := hu_of hr
  suffices hs : ∃ t, PSs (cxOf CX0 P w K mg base nInit "Classes.__init__" (defScope sInit) f cdv A outer s H E).nox (defBody sInit) t ∧ t { nx := fun _ H' => Q .non H', rt := Q } (start nInit [V.ref p, V.ref rt]) H by
    obtain ⟨t, h1, h2⟩ := hs
    exact ⟨t, h1.nox, h2⟩
  refine ⟨_, (pss_cons (ps_set (i := 2) scInit.nd rfl (Or.inl rfl) (pe_disp (pps_cons pe_str (pe_disp (pps_cons pe_str pe_bl pps_nil) (by rfl) (by rfl) (fun z => by cases z) (by decide)) (pps_cons pe_str (pe_disp (pps_cons pe_str pe_bl (pps_cons pe_str pe_bl pps_nil)) (by rfl) (by rfl) (fun z => by cases z) (by decide)) pps_nil)) (by rfl) (by rfl) (fun z => by cases z) (by decide)))
      (pss_cons (ps_for PassesOwn.never rfl (pi_enumT (by rfl) T.enumerate (pa_cons (pv 1) pa_nil)) (pg_tup rfl (pgs_cons (pg_name (i := 3) scInit.nd rfl (Or.inl rfl)) (pgs_cons (pg_name (i := 4) scInit.nd rfl (Or.inl rfl)) pgs_nil)))
      (pss_cons (ps_set (i := 5) scInit.nd rfl (Or.inl rfl) (pe_call GF hr2 (by rfl) FA.m FA.F.kp FA.b .nil pass0 (pa_cons (pv 4) (pa_cons (pv 3) (pa_cons (pv 2) pa_nil)))))
        (pss_cons (ps_if (pt_cmpR op_notN (pv 5) pe_non (nomark _))
        (pss_one (ps_never))
        pss_nil)
        (pss_one (ps_dput hu (pv 2) (pe_ix ix_tup (pv 4) pe_int (fun _ _ => rfl)) (pe_call GL hr0 (by rfl) LI.m LI.F.kp LI.b .nil pass0 (pa_cons (pv 4) (pa_cons (pv 2) pa_nil))) rfl)))))
      (pss_cons (ps_fld (pv 0) (pv 1) rfl)
      (pss_cons (ps_fld (pv 0) (pe_callTy call_tuple_of (by rfl) T.tuple (by decide +kernel) (pa_cons (pe_callTy (call_list_dK rfl) (by rfl) T.list (by decide +kernel) (pa_cons (pv 2) pa_nil)) pa_nil)) rfl)
      (pss_one (ps_fld (pv 0) (pv 2) rfl)))))), ?_⟩
  refine fun d hd d1 hd1 => ⟨upd_same, [((Sum.inr (Str.ofString "error") : Key), V.bl true)], rfl, (by show 1 ≤ 15; decide), fun d2 hd2 => ?_⟩
  rw [merge1, upd_upd] at hd2 ⊢
  refine ⟨upd_same, [((Sum.inr (Str.ofString "vacant") : Key), V.bl true), ((Sum.inr (Str.ofString "error") : Key), V.bl true)], rfl, (by show 2 ≤ 15; decide), ?_⟩
  rw [merge2', upd_upd]
  have n01 : d ≠ d1 := fun e => by rw [← e, upd_same] at hd1; cases hd1
  have n12 : d1 ≠ d2 := fun e => by rw [← e, upd_same] at hd2; cases hd2
  have n02 : d ≠ d2 := fun e => by rw [← e, upd_ne n01, upd_same] at hd2; cases hd2
  have hd1H : H d1 = none := by rw [upd_ne n01.symm] at hd1; exact hd1
  have hd2H : H d2 = none := by rw [upd_ne n12.symm, upd_ne n02.symm] at hd2; exact hd2
  refine ⟨by rw [upd_ne n02, upd_ne n01, upd_same], [((Sum.inr (Str.ofString "error") : Key), V.ref d1), ((Sum.inr (Str.ofString "vacant") : Key), V.ref d2)], rfl, (by show 2 ≤ 15; decide), ?_⟩
  rw [merge2]
  have facts : ∀ H0, H0 = upd (upd (upd (upd H d (.dK [])) d1 (.dK [((Sum.inr (Str.ofString "error") : Key), V.bl true)])) d2 (.dK [((Sum.inr (Str.ofString "vacant") : Key), V.bl true), ((Sum.inr (Str.ofString "error") : Key), V.bl true)])) d
      (.dK [((Sum.inr (Str.ofString "error") : Key), V.ref d1), ((Sum.inr (Str.ofString "vacant") : Key), V.ref d2)]) → Same H H0 ∧ H0 d = some (.dK [((Sum.inr (Str.ofString "error") : Key), V.ref d1), ((Sum.inr (Str.ofString "vacant") : Key), V.ref d2)]) ∧
      Tab fD H0 [((Sum.inr (Str.ofString "error") : Key), V.ref d1), ((Sum.inr (Str.ofString "vacant") : Key), V.ref d2)] t0 := fun H0 e => by
    subst e
    refine ⟨((((Same.refl H).put hd).put hd1H).put hd2H).put hd, upd_same, .cons ?_ (.cons ?_ .nil)⟩
    · rw [upd_ne n01.symm, upd_ne n12, upd_same]
      rfl
    · rw [upd_ne n02.symm, upd_same]
      rfl
  generalize hH0 : upd (upd (upd (upd H d (.dK [])) d1 (.dK [((Sum.inr (Str.ofString "error") : Key), V.bl true)])) d2 (.dK [((Sum.inr (Str.ofString "vacant") : Key), V.bl true), ((Sum.inr (Str.ofString "error") : Key), V.bl true)])) d
      (.dK [((Sum.inr (Str.ofString "error") : Key), V.ref d1), ((Sum.inr (Str.ofString "vacant") : Key), V.ref d2)]) = H0
  obtain ⟨sm0, hd0, T0⟩ := facts H0 hH0.symm
  have tl : (ts.map V.ref).length = rs.length := by rw [List.length_map, R.1]
  refine ⟨_, rfl, rt, _, rfl, sm0 rt _ ht, for_it (walk_enumT rt (ts.map V.ref)) (fun i σ Hc => ∃ (kvs : List (Key × V)) (v3 v4 v5 : Option V), σ = [some (.ref p), some (.ref rt), some (.ref d), v3, v4, v5] ∧ Hc d = some (.dK kvs) ∧ Tab fD Hc kvs (ups (rs.take i)) ∧ Same H Hc ∧ ∀ y a, (y, V.ref a) ∈ kvs → a ≠ d) ?_ ?_ ?_ ?_⟩
  · refine ⟨_, _, _, _, rfl, hd0, T0, sm0, fun y a hya => ?_⟩
    simp only [List.mem_cons, List.not_mem_nil, or_false, Prod.mk.injEq, V.ref.injEq] at hya
    rcases hya with ⟨_, rfl⟩ | ⟨_, rfl⟩
    · exact n01.symm
    · exact n02.symm
  · rintro i σ Hc _ ⟨kvs, v3, v4, v5, rfl, _, _, sm, _⟩
    exact sm rt _ ht
  · rintro i y σ Hc Hy hi ⟨kvs, v3, v4, v5, rfl, hD, TB, sm, hav⟩ ⟨T9, x, rfl, hT9, rfl, hx⟩
    rw [tl] at hi
    have hti : ts[i]? = some (ts[i]'(by rw [R.1]; exact hi)) := List.getElem?_eq_getElem _
    rw [List.getElem?_map, hti] at hx
    generalize ts[i]'(by rw [R.1]; exact hi) = t at hti hx
    cases hx
    have hri : rs[i]? = some rs[i] := List.getElem?_eq_getElem hi
    have htH := sm t _ (R.2 i t _ hti hri)
    have RO := g i _ hri
    have TO := tok_ups g i (Nat.le_of_lt hi)
    have hks := keys_ups_take rs i
    have hus := ups_succ hri
    have hkl := knownAt_len (Nat.le_of_lt hi)
    have hvw := g.vw_known i
    generalize rs[i] = r at hri htH RO hus
    rw [← hks] at RO hkl hvw
    generalize ups (rs.take i) = tb at TB TO hks hus RO hkl hvw
    have htl2 : tb.length = (keys tb).length := by simp [keys]
    have s9 : Same Hc (upd Hc T9 (.tup [V.int (i : Nat), V.ref t])) := (Same.refl Hc).put hT9
    refine ⟨T9, _, rfl, SqT.of upd_same, rfl, _, _, rfl, _, _, rfl, rfl, ?_⟩
    have TB9 : ∀ {H2 : Hp}, Same Hc H2 → Tab fD H2 kvs tb := fun s => TB.mono fun a us e => s a _ e
    refine ⟨_, rfl, _, rfl, _, rfl, t, d, i, r, kvs, tb, rfl, by omega, s9 t _ htH, s9 d _ hD, TB9 s9, TO, RO, fun x hx => hvw x (RO.sub x hx), by omega, fun H2 s2 => ?_⟩
    refine ⟨_, rfl, rfl, _, rfl, iteNS rfl ?_⟩
    have s92 := s9.trans s2
    refine ⟨_, rfl, _, rfl, t, d, r, kvs, tb, rfl, s92 t _ htH, s92 d _ hD, TB9 s92, TO, RO, by omega, fun m H3 hmf hm s3 => ?_⟩
    have s93 := s92.trans s3
    have hD3 := s93 d _ hD
    have ht3 := s93 t _ htH
    obtain ⟨x, bs⟩ := r
    unfold rowO at ht3
    refine ⟨_, rfl, _, rfl, t, _, _, _, rfl, rfl, SqT.of ht3, atI_nat (j := 0) rfl, d, _, rfl, DPut.k (k := Sum.inr x) hD3 ?_, ?_⟩
    · rw [TB.len, htl2]; show _ < 16777216; omega
    rw [putK_new _ (TB.none RO.new)]
    have hmd : m ≠ d := (ne_of_none (s92 d _ hD) hmf).symm
    refine ⟨_, _, _, _, rfl, upd_same, ?_, (sm.trans s93).put hd, fun y a hya => ?_⟩
    · rw [hus]
      refine Tab.snoc ((TB9 s93).monoM fun a us ⟨y, hy⟩ e => by rw [upd_ne (hav y a hy)]; exact e) ?_
      rw [upd_ne hmd]
      exact hm
    · rcases List.mem_append.mp hya with hya | hya
      · exact hav y a hya
      · simp only [List.mem_cons, List.not_mem_nil, or_false, Prod.mk.injEq, V.ref.injEq] at hya
        rw [hya.2]
        exact hmd
  · rintro σ Hc ⟨kvs, v3, v4, v5, rfl, hD, TB, sm, hav⟩
    rw [tl, List.take_length] at TB
    have hpc := sm p _ hp
    have hdp : d ≠ p := ne_of hD hpc (by intro z; cases z)
    refine ⟨_, rfl, _, rfl, p, C, dx, _, rfl, hpc, X.cl, X.nR, (by show 0 < 1000; decide), ?_⟩
    refine ⟨_, rfl, d, kvs, rfl, by rw [upd_ne hdp]; exact hD, fun q1 hq1 => ?_⟩
    refine ⟨q1, _, rfl, .inl ⟨SqL.of upd_same, fun q2 hq2 => ?_⟩⟩
    have np1 : p ≠ q1 := ne_of_none upd_same hq1
    have np2 : p ≠ q2 := ne_of_none ((upd_ne np1).trans upd_same) hq2
    have back : ∀ b o, Hc b = some o → b ≠ p → ∀ o1 o2 o3 o4, (upd (upd (upd (upd Hc p o1) q1 o2) q2 o3) p o4) b = some o := fun b o e n o1 o2 o3 o4 => by
      have e1 : (upd Hc p (.ins C dx (putF "rows" (V.ref rt) []))) b = some o := by rw [upd_ne n]; exact e
      have n1 : b ≠ q1 := ne_of_none e1 hq1
      have n2 : b ≠ q2 := by
        refine ne_of_none (o := o) ?_ hq2
        rw [upd_ne n1]
        exact e1
      rw [upd_ne n, upd_ne n2, upd_ne n1, upd_ne n]
      exact e
    refine ⟨_, rfl, p, C, dx, _, rfl, by rw [upd_ne np2, upd_ne np1, upd_same], X.cl, X.nN, (by show 1 < 1000; decide), ?_⟩
    refine ⟨_, rfl, _, rfl, p, C, dx, _, rfl, upd_same, X.cl, X.nL, ?_, ?_⟩
    · show (if ("rows" : Str) = "names" then _ else _ : List (Str × V)).length < 1000
      rw [if_neg k1_]
      show 2 < 1000
      decide
    rw [upd_upd]
    have nr : ∀ (a : Addr) (us : List V), Hc a = some (.tup us) → a ≠ p := fun a us e => ne_of e hpc (by intro z; cases z)
    refine k _ ⟨dx, rt, q2, d, kvs, ts, upd_same, back d _ hD hdp _ _ _ _, TB.mono fun a us e => back a _ e (ne_of e hpc (by unfold fD; intro z; cases z)) _ _ _ _, ?_, back rt _ (sm rt _ ht) (nr _ _ (sm rt _ ht)) _ _ _ _, R.mono fun b r e => back b _ (sm b _ e) (nr _ _ (sm b _ e)) _ _ _ _⟩ fun b o e n => back b o (sm b o e) n _ _ _ _
    rw [upd_ne np2.symm, upd_same, keys_vals TB]
end
end K2
end
section
set_option Elab.async false
set_option maxRecDepth 100000
set_option linter.all false
namespace K2
open PySem L2 PySem.Spec PyProof.Rows
section
variable {X : Cx} {CX : CXT} {k n i : Nat} {f C : Addr} {fd : FuncData} {ps ks : List Str} {sp : Sp} {E : XK} {m x : Str} {o e : Expr} {p q pos apos : Pos} {ta tk te : TA} {g : List Value → List Value → List Value} {gV : List V → List V → List V} {kws : List Keyword}
theorem run_fnK {pins : List (Addr × Obj)} {σ : L2.St} {H : Hp} {s : Shared} {Q : VK} {us ws : List Value} {vs zs : List V} (F : FnOk X.prog X.w X.K X.mg X.base CX k f fd ps sp) (hr : Room k X.A) (hb : KBn X.K fd ps n ks g gV) (hx : Passes CX X E) (I : Inv X pins σ H s)
    (r : Vals vs us) (rz : Vals zs ws) (l1 : us.length = n) (l2 : ws.length = ks.length) (h : sp (gV vs zs) H Q E) : wpAny (model X.prog X.w) X.A (call (.ref f) us (ks.zip ws)) (EP X pins σ Q) X.xe s := by
  refine wpAny_call (codeAny_mono (F.run X.A X.stack s H ⟨us, ks.zip ws⟩ (g us ws) (gV vs zs) Q E hr I.env0 (hb.to s us ws I.kIn l1 l2) (hb.rel r rz) h) fun y z hq => ?_)
  cases y with
  | error e => exact hx pins σ H s e z I hq
  | ok fl =>
    cases fl with
    | ret u => exact I.after hq
    | next => exact hq.elim
    | brk => exact hq.elim
    | cont => exact hq.elim
/-- o.m(k = v, ..) -/
def tMethK (C : Addr) (m : Str) (sp : Sp) (ks : List Str) (gV : List V → List V → List V) (E : XK) (to : TE) (tk : TA) : TE := fun σ H Q => to σ H fun x H1 => ∃ a dx fs, x = .ref a ∧ H1 a = some (.ins C dx fs) ∧ fs.lookup m = none ∧ tk σ H1 fun zs H2 => zs.length = ks.length ∧ sp (gV [x] zs) H2 Q E
theorem pe_methK {to : TE} {pl : Sem Bool} (he : PE X o to) (c : Cls X.K C) (hm : Meth X.K C m f) (F : FnOk X.prog X.w X.K X.mg X.base CX k f fd ps sp) (hr : Room k X.A) (hb : KBn X.K fd ps 1 ks g gV) (hx : Passes CX X E) (hkw : PK X kws tk)
    (hall : (backToKw pos (keywordEach kws X.env)).all (·.1.isSome) = true := by rfl) (hks : (backToKw pos (keywordEach kws X.env)).filterMap (·.1) = ks := by rfl) (hpl : ((backTo pos (starEach [] X.env)).any (·.1) || (backToKw pos (keywordEach kws X.env)).any (·.1.isNone)) = false := by rfl)
    (ht : eval (.Call (.Attribute o m apos) [] kws pos) X.env = (do
      let ov ← eval o X.env
      standAt apos.atName
      let (f, first) ← holding [ov] (getMethod ov m pl)
      callWith pos f first (backTo pos (starEach [] X.env)) (backToKw pos (keywordEach kws X.env))) := by rfl) : PE X (.Call (.Attribute o m apos) [] kws pos) (tMethK C m sp ks gV E to tk) := by
  refine ⟨fun pins s σ H Q I h => PySem.W.methodCall_KW (pl := pl) (thn (he.run pins s σ H _ I h) fun u s1 ⟨x, H1, I1, rx, a, dx, fs, ex, ea, l, q⟩ => ?_) ht⟩
  subst ex
  obtain rfl : u = Value.ref a := rx
  refine getmeth_ok I1 ea c hm l (PySem.W.callWith_KW0 (first := [.ref a]) (h₀ := X.base) I.ok.mod.kin hm.kp hall (thn (hkw.run pos pins s1 σ H1 _ I1 q) fun ws s2 ⟨zs, H2, I2, rz, l2, q2⟩ => ⟨I2.kIn, ?_⟩) hpl)
  rw [hks]
  exact run_fnK (us := [.ref a]) (vs := [.ref a]) F hr hb hx I2 (.cons rfl .nil) rz rfl (by rw [← l2, rz.length]) q2
/-- c(*y), c a name that holds a class -/
def tMakeL (i : Nat) (K : PySem.W.Frag) (C : Addr) (sp : Sp) (E : XK) (te : TE) : TE := fun σ H Q => σ[i]? = some (some (.ref C)) ∧ te σ H fun y H1 => ∃ a xs, y = .ref a ∧ (SqT K H1 a xs ∨ SqL K H1 a xs) ∧ ∀ x dx, H1 x = none → H1 dx = none → dx ≠ x →
  sp (V.ref x :: xs) (upd (upd H1 dx (.own x)) x (.ins C dx [])) (fun v H2 => v = .non ∧ Q (.ref x) H2) E
theorem pe_makeL {te : TE} (M : Mk X.K C f) (F : FnR X.prog X.w X.K X.mg X.base CX k f sp) (hr : Room (k + 1) X.A) (hN : X.N[i]? = some x) (hv : Vis X.env.scope x) (hx : Passes CX X E) (he : PE X e te) (hdb : (x == ("__debug__" : Str)) = false := by decide) (hcd : (x == ("__classdict__" : Str)) = false := by decide)
    (hst : starEach [.Starred e q] X.env = [(true, eval e X.env)] := by rfl) : PE X (.Call (.Name x p) [.Starred e q] [] pos) (tMakeL i X.K C sp E te) := by
  refine ⟨fun pins s σ H Q I ⟨hs, ht⟩ => wpAny_Call_Name_kw (thn ((pe_var (pos := p) hN hv hdb hcd).run pins s σ H (fun v H1 => v = .ref C ∧ H1 = H) I ⟨.ref C, hs, rfl, rfl⟩) fun u s1 ⟨v, H1, I1, r1, q1⟩ => ?_)⟩
  obtain ⟨rfl, rfl⟩ := q1
  cases r1
  refine PySem.W.callWith_S (h₀ := X.base) I.ok.mod.kin M.kp (thn (he.run pins s1 σ _ _ I1 ht) fun v s2 ⟨y, H2, I2, ry, a, xs, ey, hxs, h2⟩ => ?_) hst
  subst ey
  obtain rfl : v = Value.ref a := ry
  exact StX.star_any I2 hxs fun us s3 I3 rv => ⟨I3.kIn, StX.run_makeR M F hr hx I3 rv h2⟩
end
def spWithin (C : Addr) : Sp := fun vs H Q _ => ∃ (p : Addr) (x y : Str) (tb : Tb), vs = [.ref p, .str x, .str y] ∧ ClsAt C H p tb ∧ x ∈ keys tb ∧ Q (.bl (decide (y ∈ look tb x))) H
def spMade (C : Addr) : Sp := fun vs H Q _ => ∃ (l : Addr) (ts : List Addr) (rs : List Row), vs = [.ref C, .ref l] ∧ H l = some (.lst (ts.map V.ref)) ∧ RowsAt H ts rs ∧ Good rs ∧ rs.length ≤ 30 ∧ ∀ (p : Addr) (H' : Hp), ClsW C H' p rs → Same H H' → Q (.ref p) H'
section
variable {P : Program} {w : World} {K : PySem.W.Frag} {mg : Str → Option Value} {base : Heap}
theorem scWithin : FnScope ["self", "one", "other"] ["self", "one", "other"] (defScope sWithin) := ⟨rfl, rfl, rfl, by decide +kernel, rfl, by decide +kernel, by decide +kernel⟩
theorem ok_within {f C : Addr} {fd : FuncData} (F : Fun K "within" "Classes.within" sWithin f fd) (X : Txt K mg C) : FnOk P w K mg base CX0 1 f fd ["self", "one", "other"] (spWithin C) := by
  refine F.ok scWithin (fun vs H Q E h => ?_) (fun cdv A outer s H vs Q E hr h => ?_)
  · obtain ⟨p, x, y, tb, rfl, _⟩ := h
    rfl
  · obtain ⟨p, x, y, tb, rfl, ⟨dx, r, n, l, kvs, hp, hl, TB⟩, hx, k⟩ := h
    have hu := hu_of hr
    refine ⟨_, pss_one (ps_ret (pe_cmp (pc_din hu (pv 2) (pe_dget hu (pe_fld (pv 0) rfl) (pv 1) (fun _ _ => rfl))) rfl)), ?_⟩
    obtain ⟨a, ha1, ha2⟩ := TB.val hx
    refine ⟨_, rfl, _, rfl, p, C, dx, _, _, rfl, hp, X.cl, X.nL, flds_lines _ _ _, _, rfl, l, _, rfl, dget_s hl ha1, a, _, rfl, DGet.k (k := Sum.inr y) ha2, ?_⟩
    rw [dkeys_val]
    by_cases h : y ∈ look tb x
    · rw [if_pos h]
      rw [decide_eq_true h] at k
      exact k
    · rw [if_neg h]
      rw [decide_eq_false h] at k
      exact k
theorem scMade : FnScope ["cls", "rows"] ["cls", "rows"] (defScope sMade) := ⟨rfl, rfl, rfl, by decide +kernel, rfl, by decide +kernel, by decide +kernel⟩
theorem ok_made {f fI C : Addr} {fd : FuncData} (F : Fun K "made" "Classes.made" sMade f fd) (M : Mk K C fI)
    (GI : FnR P w K mg base CX0 4 fI (fun vs H Q E => ∃ ws rest, vs = ws ++ rest ∧ ws.length = 1 ∧ rest.length ≤ sizeLine ∧ ∀ p, H p = none → spInit C (ws ++ [V.ref p]) (upd H p (.tup rest)) Q E)) : FnOk P w K mg base CX0 6 f fd ["cls", "rows"] (spMade C) := by
  refine F.ok scMade (fun vs H Q E h => ?_) (fun cdv A outer s H vs Q E hr h => ?_)
  · obtain ⟨l, ts, rs, rfl, _⟩ := h
    rfl
  · obtain ⟨l, ts, rs, rfl, hl, R, g, h30, k⟩ := h
    refine ⟨_, pss_one (ps_ret (pe_makeL (i := 0) M GI hr rfl (Or.inl rfl) pass0 (pv 1))), ?_⟩
    refine ⟨rfl, _, rfl, l, _, rfl, .inr (SqL.of hl), fun x dx nx ndx ne => ⟨[V.ref x], _, rfl, rfl, ?_, fun pt hpt => ?_⟩⟩
    · rw [List.length_map, R.1]; show _ ≤ 16777216; omega
    have s1 : Same H (upd (upd H dx (.own x)) x (.ins C dx [])) := ((Same.refl H).put ndx).put nx
    have s2 : Same H (upd (upd (upd H dx (.own x)) x (.ins C dx [])) pt (.tup (ts.map V.ref))) := s1.put (s1.free hpt)
    refine ⟨x, dx, pt, ts, rs, rfl, by rw [upd_ne (ne_of_none upd_same hpt), upd_same], upd_same, R.mono fun b r e => s2 b _ e, g, h30, fun H' cl kp => ⟨rfl, k x H' cl fun b o e => kp b o (s2 b o e) (ne_of_none e nx)⟩⟩
end
end K2
end
section
set_option Elab.async false
set_option maxRecDepth 100000
set_option linter.all false
namespace K2
open PySem L2 PySem.Spec PyProof.Rows
/-- a def's promise where no repr runs around -/
structure FnG (P : Program) (w : World) (K : PySem.W.Frag) (mg : Str → Option Value) (base : Heap) (k : Nat) (f : Addr) (fd : FuncData) (ps : List Str) (sp : Sp) : Prop where
  len : ∀ vs H Q E, sp vs H Q E → vs.length = ps.length
  run : ∀ (A : Around) (outer : List Env) (s : Shared) (H : Hp) (args : Args) (us : List Value) (vs : List V) (Q : VK) (E : XK), Room k A → A.guards = some [] → Env0 P w K mg base A outer s H → BindsTo s fd args (ps.zip us) → Vals vs us → sp vs H Q E →
    codeAny (model P w) A (.call (.ref f) args) (CR CX0 outer P w H s Q E) s
section
variable {P : Program} {w : World} {K : PySem.W.Frag} {mg : Str → Option Value} {base : Heap}
theorem okG {x qual : Str} {st : Stmt} {f : Addr} {fd : FuncData} {N ps : List Str} {k : Nat} {sp : Sp} (F : Fun K x qual st f fd) (S : FnScope N ps (defScope st)) (len : ∀ vs H Q E, sp vs H Q E → vs.length = ps.length)
    (body : ∀ (cdv : Value) (A : Around) (outer : List Env) (s : Shared) (H : Hp) (vs : List V) (Q : VK) (E : XK), Room k (A.deeper (envOfC qual (defScope st) s.heap.objs.size f cdv)) → A.guards = some [] → sp vs H Q E →
      ∃ t, PSs (cxOf CX0 P w K mg base N qual (defScope st) f cdv A outer s H E).nox (defBody st) t ∧ t { nx := fun _ H' => Q .non H', rt := Q } (start N vs) H) : FnG P w K mg base (k + 1) f fd ps sp := by
  obtain ⟨oc, od, kV, doc, pm, an, cdv, ct, osl, rfl, lk, hcd⟩ := F.ex
  refine ⟨len, fun A outer s H args us vs Q E hr hg e0 hb rv hs => ?_⟩
  refine StX.run_bnd (G := fun xs H2 => xs = vs ∧ H2 = H) lk hcd S hr e0 (fun A' Ex Q' h => hb _ _ _ _ (h s H vs us e0 Un.refl rfl (fun _ _ z => z) rv (len _ _ _ _ hs) ⟨rfl, rfl⟩)) fun s2 H2 xs ⟨e1, e2⟩ hr2 => ?_
  subst e1 e2
  obtain ⟨t, h1, h2⟩ := body cdv A outer s2 _ _ Q E hr2 hg hs
  exact ⟨t, h1.nox, h2⟩
end
section
variable {X : Cx} {k : Nat} {f : Addr} {fd : FuncData} {ps : List Str} {sp : Sp} {x : Str} {e : Expr} {es : List Expr} {p pos : Pos} {t : TA}
theorem pe_callG (F : FnG X.prog X.w X.K X.mg X.base k f fd ps sp) (hr : Room k X.A) (gu : X.A.guards = some []) (hg : Gl X x) (hm : X.mg x = some (.ref f)) (hk : PySem.W.keepIn X.K (.ref f) = true) (hb : Binds X.K fd ps []) (ha : PA X (e :: es) t) (hdb : (x == ("__debug__" : Str)) = false := by decide)
    (he : starEach (e :: es) X.env = (false, eval e X.env) :: starEach es X.env := by rfl) (hpl : (backTo pos (starEach es X.env)).any (·.1) = false := by rfl) : PE X (.Call (.Name x p) (e :: es) [] pos) (fun σ H Q => t σ H fun vs H1 => sp vs H1 Q E0) := by
  refine ⟨fun pins s σ H Q I h => wpAny_Call_Name_kw (ld_glob I hg hm ?_ hdb)⟩
  refine PySem.W.callWith_K (h₀ := X.base) I.ok.mod.kin hk (thn (ha.run pos pins s σ H _ I h) fun us s1 ⟨vs, H1, I1, r, q⟩ => ⟨I1.kIn, ?_⟩) he hpl
  have l2 : us.length = ps.length := by rw [← r.length]; exact F.len _ _ _ _ q
  have hb2 := hb s1 us I1.kIn (by simpa using l2)
  rw [List.append_nil] at hb2
  refine wpAny_call (codeAny_mono (F.run X.A X.stack s1 H1 ⟨us, []⟩ us vs Q E0 hr gu I1.env0 hb2 r q) fun y z hq => ?_)
  cases y with
  | error e => exact hq.elim
  | ok fl =>
    cases fl with
    | ret u => exact I1.after hq
    | next => exact hq.elim
    | brk => exact hq.elim
    | cont => exact hq.elim
/-! repr of a list of bools -/
def boolsD (bs : List Bool) : PyData := .list (bs.map PyData.bool)
theorem bools_dp (K : PySem.W.Frag) (H : Hp) : ∀ bs : List Bool, DpAll K H (bs.map V.bl) (bs.map PyData.bool)
  | [] => .nil
  | b :: bs => .cons (.bl b) (bools_dp K H bs)
theorem bools_show : ∀ bs : List Bool, PyData.showableAll (bs.map PyData.bool) = true
  | [] => rfl
  | b :: bs => by
    show (true && PyData.showableAll (bs.map PyData.bool)) = true
    rw [bools_show bs]
    rfl
theorem bools_depth : ∀ bs : List Bool, PyData.depthAll (bs.map PyData.bool) = 0
  | [] => rfl
  | b :: bs => by
    show max 0 (PyData.depthAll (bs.map PyData.bool)) = 0
    rw [bools_depth bs]
    rfl
theorem bools_nodict : ∀ bs : List Bool, PyData.hasDictAll (bs.map PyData.bool) = false
  | [] => rfl
  | b :: bs => by
    show (false || PyData.hasDictAll (bs.map PyData.bool)) = false
    rw [bools_nodict bs]
    rfl
theorem bools_sum : ∀ bs : List Bool, ((PyData.shownAll (bs.map PyData.bool)).map (·.length)).sum ≤ 5 * bs.length ∧ (PyData.shownAll (bs.map PyData.bool)).length = bs.length
  | [] => ⟨Nat.le_refl _, rfl⟩
  | b :: bs => by
    obtain ⟨h1, h2⟩ := bools_sum bs
    have hb : (PyData.shown (.bool b)).length ≤ 5 := by cases b <;> decide +kernel
    refine ⟨?_, ?_⟩
    · show (PyData.shown (.bool b)).length + ((PyData.shownAll (bs.map PyData.bool)).map (·.length)).sum ≤ 5 * (bs.length + 1)
      omega
    · show (PyData.shownAll (bs.map PyData.bool)).length + 1 = bs.length + 1
      omega
theorem bools_size (bs : List Bool) (h : bs.length ≤ 1000) : (boolsD bs).shown.length ≤ sizeLine := by
  have h1 := listText_len_le (PyData.shownAll (bs.map PyData.bool))
  obtain ⟨h2, h3⟩ := bools_sum bs
  show (listText (PyData.shownAll (bs.map PyData.bool))).length ≤ 16777216
  omega
/-- repr(xs) of a list of bools: a text that hangs on the bools alone -/
def rReprB (K : PySem.W.Frag) : List V → Hp → VK → Prop := fun xs H Q => ∃ a bs, xs = [V.ref a] ∧ SqL K H a (bs.map V.bl) ∧ (boolsD bs).shown.length ≤ sizeLine ∧ Q (.str (boolsD bs).shown) H
theorem call_reprB (gu : X.A.guards = some []) (hu : X.A.units + 64 < cLine) : CallR X (.builtin "repr") (rReprB X.K) := by
  intro pins s σ H xs us Q I r h
  obtain ⟨a, bs, rfl, hs, hz, q⟩ := h
  obtain ⟨u, rfl, ru⟩ := r.one
  cases ru
  obtain ⟨as, rd⟩ := Dp.reads I (boolsD bs) (V.ref a) (Value.ref a) (.lst hs (bools_dp _ _ bs)) rfl
  have dp : (boolsD bs).depth = 1 := by
    show PyData.depthAll (bs.map PyData.bool) + 1 = 1
    rw [bools_depth]
  refine repr_of_reads' rd (bools_show bs) (fun z => by rw [show (boolsD bs).hasDict = false from bools_nodict bs] at z; cases z) gu (by rw [dp]; omega) (fun b o e => e) (fun h' u tk hk => ⟨.str _, H, I.kept (t' := tk) hk, ⟨u, rfl⟩, q⟩) hz
end
end K2
end
section
set_option Elab.async false
set_option maxRecDepth 100000
set_option linter.all false
namespace K2
open PySem PySem.Spec PyProof.Rows L2
/-! ### sets of texts that are walked -/
def sTxt (e : Int × Value) : Str := match e.2 with | .str k _ => k | _ => Str.empty
structure WkS (P : Program) (w : World) (D : Froz.SD) (l : List Str) : Prop where
  ok : Froz.TxOk P w D l
  tx : ∀ e ∈ D.1.toList, ∃ u, e.2 = .str (sTxt e) u
  pm : (D.1.toList.map sTxt).Perm l
  rs : Ris D.2.2.place.toList
  ld : w.params.followText "set-order" = true ∨ D.2.2.led = true
theorem addTx_is (h : Int) (v : Value) (D : Froz.SD) : (Froz.addTx h v D).1.toList.Perm (D.1.toList ++ [(h, v)]) ∧ (Ris D.2.2.place.toList → Ris (Froz.addTx h v D).2.2.place.toList) ∧ (Froz.addTx h v D).2.2.led = D.2.2.led := by
  obtain ⟨es, ep, t⟩ := D
  have p := layNew_perm t es h v
  have r := layNew_ris t es h v
  have l := layNew_led t es h v
  unfold Froz.addTx Froz.tailTx
  dsimp only
  generalize layNew t es h v = Z at p r l ⊢
  obtain ⟨e1, t1, wd, gv⟩ := Z
  dsimp only at p r l ⊢
  rw [Array.toList_push] at p
  have r2 : Ris t.place.toList → Ris (if t1.plain = true then { t1 with plain := false } else t1).place.toList := fun q => by split <;> exact r q
  have l2 : (if t1.plain = true then { t1 with plain := false } else t1).led = t.led := by split <;> exact l
  generalize (if t1.plain = true then { t1 with plain := false } else t1) = t2 at r2 l2 ⊢
  by_cases c : (!wd && t2.tooFull) = true
  · rw [if_pos c]
    exact ⟨(relayAll_perm t2 e1 _).trans p, fun _ => relayAll_ris t2 e1 _, (relayAll_led t2 e1 _).trans l2⟩
  · rw [if_neg c]
    exact ⟨p, r2, l2⟩
section
variable {P : Program} {w : World} {A : Around} {E : Value → Shared → Prop} {s : Shared}
theorem WkS.add {D : Froz.SD} {l : List Str} {k : Str} (u : Tok) (W : WkS P w D l) : WkS P w (Froz.addTx (hashStr w k) (.str k u) D) (k :: l) := by
  obtain ⟨p, r, d⟩ := addTx_is (hashStr w k) (.str k u) D
  refine ⟨Froz.add_ok u W.ok, fun e he => ?_, ?_, r W.rs, W.ld.imp id fun z => d.trans z⟩
  · rcases List.mem_append.mp (p.mem_iff.mp he) with q | q
    · exact W.tx e q
    · rw [List.mem_singleton.mp q]
      exact ⟨u, rfl⟩
  · have q := p.map sTxt
    rw [List.map_append] at q
    exact q.trans ((List.perm_append_singleton _ _).trans (W.pm.cons k))
theorem dup_x {a : Addr} {D : Froz.SD} {l : List Str} {k : Str} {u : Tok} {Q : Bool → Shared → Prop} (ho : s.heap.get? a = some (Froz.sObj "set" D)) (F : Froz.TxOk P w D l) (hk : k ∈ l) (hb : l.length < scanBound) (h : Q false s) :
    wpAny (model P w) A (setAddHashed a (.str k u) (hashStr w k)) Q E s := by
  obtain ⟨es, ep, t⟩ := D
  have fits : t.fits es.size = true := F.fit
  have el : ElemsOf (strKind P w) es.toList := F.el
  have few : es.size < scanBound := by
    have : es.size = l.length := F.sz
    omega
  have me : (strKind P w).is k (.str k u) = true := Froz.is_str k u
  obtain ⟨e0, m0, z0⟩ := (F.mem k).mp hk
  unfold setAddHashed setAddHashedIn
  refine wpAny_holding (wpAny_bind (wpAny_setState_of ho rfl fits ?_))
  dsimp only
  rw [byScan_of rfl few el]
  simp only [↓reduceIte]
  unfold setAddByScan
  refine wpAny_bind (wpAny_bind (wpAny_rule (wpAny_bind (wpAny_setScan_of (knd := strKind P w) (k := k) me ho rfl fits el ?_))))
  cases hf : List.findIdx? (fun e => (strKind P w).is k e.2) es.toList with
  | none =>
    have c := List.findIdx?_eq_none_iff.mp hf e0 m0
    rw [z0] at c
    cases c
  | some j => exact wpAny_pure (wpAny_pure h)
theorem fresh_led {a : Value} {Q : Value → Shared → Prop} (h : Q (.ref s.heap.objs.size) { s with heap := s.heap.push (Froz.sObj "set" (#[], 0, .fresh 0 0 (!w.params.followText "set-order"))) }) :
    codeAny (model P w) A (.call (.builtin "set.__new__") ⟨[.type "set", a], []⟩) (wants Q E) s := by
  refine codeAny_of_tree (wpAny_bind (wpAny_of_eq (F.newCall_set_1 a) (wpAny_pure ⟨plainId_quiet F.plain_set_new _, codeAny_builtin F.entry_set_new ?_⟩)))
  rw [Around.under_plainId F.plain_set_new _]
  unfold Builtin.«set.__new__» Builtin.Frozenset.newClass
  have sub := sub_set_self
  obtain ⟨hp, g, d, tk, os⟩ := s
  dsimp only
  wp_walk
  refine wpAny_askSetting (wpAny_pure ?_)
  dsimp only
  simp only [newObj]
  exact wpAny_bind (wpAny_alloc (wpAny_pure (wpAny_pure h)))
end
/-- at a stands a set of just the texts ys, at most n of them -/
def HasS (P : Program) (w : World) (h : Heap) (a : Addr) (ys : List Str) (n : Nat) : Prop := ∃ D l, h.get? a = some (Froz.sObj "set" D) ∧ WkS P w D l ∧ l.Nodup ∧ l.length ≤ n ∧ ∀ y, y ∈ l ↔ y ∈ ys
section
variable {p : Program} {w : World} {A : Around} {Z : Result → Shared → Prop} {it : Addr} {f g : List Addr} {Gs : Array GenState → Array GenState → Prop} {N : Nat} {Yv : Nat → Value → Prop} {Sv : Nat → Shared → Prop}
/-- a set that takes in texts, one after the other -/
theorem set_eats (Wk : WalksS p w A.in1 it f g Gs N Yv Sv) {a : Addr} (af : a ∉ f) {xs : List Str} (lx : xs.length = N) (few : N ≤ 1000) (val : ∀ j v, Yv j v → ∃ t, v = .str (xs.getD j Str.empty) t) :
    ∀ (m j : Nat) (s : Shared), N - j = m → j ≤ N → Sv j s → HasS p w s.heap a (xs.take j) j → (∀ z, Moved (a :: g) Gs s z → HasS p w z.heap a xs N → Z (.ok (.ret .none)) z) →
      codeAny (model p w) A (.builtin "set.update.loop" ⟨[.ref a, .ref it], []⟩) Z s := by
  have ag : a ∉ g := fun q => af (Wk.sub _ q)
  have wide : ∀ b ∈ g, b ∈ a :: g := fun b q => List.mem_cons_of_mem _ q
  have stays : ∀ {s z : Shared} {ys : List Str} {c : Nat}, Moved g Gs s z → HasS p w s.heap a ys c → HasS p w z.heap a ys c := fun mv q => by
    obtain ⟨D, l, ho, r⟩ := q
    exact ⟨D, l, mv.heap a _ ag ho, r⟩
  intro m
  induction m with
  | zero =>
    intro j s hm hj st se fin
    obtain rfl : j = N := by omega
    refine codeAny_builtin F.entry_set_update_loop (by
      rw [Around.under_plainId F.plain_set_update_loop _]
      refine wpAny_bind (Wk.done s _ _ st fun z mv => wpAny_pure (fin z (mv.mono wide) ?_))
      have q := stays mv se
      rwa [← lx, List.take_length, lx] at q)
  | succ m ih =>
    intro j s hm hj st se fin
    have jl : j < N := by omega
    have xj : xs[j]? = some (xs.getD j Str.empty) := by
      rw [List.getD_eq_getElem?_getD, List.getElem?_eq_getElem (by omega)]
      rfl
    have tk : xs.take (j + 1) = xs.take j ++ [xs.getD j Str.empty] := by rw [List.take_add_one, xj]; rfl
    refine codeAny_builtin F.entry_set_update_loop (by
      rw [Around.under_plainId F.plain_set_update_loop _]
      refine wpAny_bind (Wk.item j s _ _ jl st fun v z hv st2 mv => ?_)
      obtain ⟨t, rfl⟩ := val j v hv
      generalize xs.getD j Str.empty = x at xj tk
      obtain ⟨D, l, ho, wk, nd, le, me⟩ := stays mv se
      have go : ∀ (b : Bool) (h2 : Heap), (∀ b o, b ≠ a → z.heap.get? b = some o → h2.get? b = some o) → HasS p w h2 a (xs.take (j + 1)) (j + 1) →
          codeAny (model p w) A (.builtin "set.update.loop" ⟨[.ref a, .ref it], []⟩) Z { z with heap := h2, toks := z.toks + 1 } := fun b h2 kp hs =>
        ih (j + 1) _ (by omega) jl (Wk.frame _ z _ _ st2 (Nat.le_succ _) fun b hb o e => kp b o (fun q => af (q ▸ hb)) e) hs fun y mv2 se4 =>
          fin y (Moved.trans Wk.gtrans ((mv.mono wide).then_heap (Nat.le_succ _) fun b o hb e => kp b o (fun q => hb (q ▸ List.mem_cons_self)) e) mv2) se4
      refine wpAny_bind (wpAny_holding (by
        unfold setAdd
        refine wpAny_holding (wpAny_bind ((strKind p w).pyHash (k := x) (strKind_is _ _ _ _) ?_))
        by_cases hx : x ∈ l
        · refine dup_x (s := { z with toks := z.toks + 1 }) ho wk.ok hx (by unfold scanBound; omega) ?_
          refine wpAny_pure ⟨plainId_quiet F.plain_set_update_loop _, go false z.heap (fun _ _ _ e => e) ⟨D, l, ho, wk, nd, by omega, fun y => ?_⟩⟩
          rw [tk, List.mem_append, List.mem_singleton, ← me y]
          exact ⟨.inl, fun q => q.elim id fun e => e ▸ hx⟩
        · refine Froz.add_x (s := { z with toks := z.toks + 1 }) ho wk.ok hx (by unfold scanBound; omega) ?_
          refine wpAny_pure ⟨plainId_quiet F.plain_set_update_loop _, go true _ (fun b o hb e => (Heap.get?_update_other _ _ (Ne.symm hb)).trans e) ⟨_, x :: l, Froz.get_upd _ ho rfl, wk.add t, List.nodup_cons.mpr ⟨hx, nd⟩, by rw [List.length_cons]; omega, fun y => ?_⟩⟩
          rw [tk, List.mem_append, List.mem_singleton, ← me y, List.mem_cons]
          exact Or.comm)))
end
section
variable {p : Program} {w : World} {A : Around} {E : Value → Shared → Prop} {s : Shared}
set_option maxHeartbeats 3200000 in
/-- set(l) of a list of texts holds just these -/
theorem set_of_lst {l : Addr} {its : Array Value} {xs : List Str} {Q : Value → Shared → Prop} (hh : A.handled = none) (hl : s.heap.IsList l its) (hi : StrsAre its.toList xs) (few : xs.length ≤ 1000)
    (fin : ∀ (h' : Heap) (tk : Nat), HasS p w h' s.heap.objs.size xs xs.length → (∀ b o, b < s.heap.objs.size → s.heap.get? b = some o → h'.get? b = some o) → Q (.ref s.heap.objs.size) { s with heap := h', toks := tk }) :
    wpAny (model p w) A (call (.type "set") [.ref l]) Q E s := by
  have sz : its.size = xs.length := by rw [← Array.length_toList, StrsAre.len_eq hi]
  obtain ⟨c, tl, hmro⟩ := F.called_set.mro
  have m1 := F.called_set.made
  have m2 := F.called_set.sub
  refine wpAny_call (codeAny_of_tree (wpAny_pure ⟨Code.quiet_builtin _ (by decide +kernel), codeAny_builtin F.entry_type_call (by
    rw [Around.under_plain (weight_type_call_type "set" [.ref l] []) rfl]
    have m3 := F.called_set.notType
    have m4 := F.called_set.canCreate
    have m5 := F.typeCall_set_1 (.ref l)
    repeat (any_goals (first | assumption | wp_step))
    refine codeAny_mono (fresh_led (P := p) (w := w) (a := .ref l) (E := E) (Q := fun v z => v = .ref s.heap.objs.size ∧ z = { s with heap := s.heap.push (Froz.sObj "set" (#[], 0, .fresh 0 0 (!w.params.followText "set-order"))) }) ⟨rfl, rfl⟩) fun r z hr => ?_
    cases r with
    | error e => exact hr
    | ok fl =>
      cases fl with
      | next => exact hr.elim
      | brk => exact hr.elim
      | cont => exact hr.elim
      | ret v =>
        obtain ⟨rfl, rfl⟩ := hr
        generalize hled : (!w.params.followText "set-order") = led
        have hS : (s.heap.push (Froz.sObj "set" (#[], 0, .fresh 0 0 led))).get? s.heap.objs.size = some (Froz.sObj "set" (#[], 0, .fresh 0 0 led)) := Heap.get?_push_size _ rfl
        have hT : Shared.TypeIs { s with heap := s.heap.push (Froz.sObj "set" (#[], 0, .fresh 0 0 led)) } (.ref s.heap.objs.size) "set" := ⟨_, hS, rfl⟩
        have n1 := F.called_set.init.lookup
        have n2 := F.called_set.init.bind (.ref s.heap.objs.size)
        repeat (any_goals (first | assumption | wp_step))
        refine codeAny_mono (codeAny_call_builtin (R := wants (fun r z => r = .none ∧ ∃ h' tk, z = { s with heap := h', toks := tk } ∧ HasS p w h' s.heap.objs.size xs xs.length ∧ (∀ b o, b < s.heap.objs.size → s.heap.get? b = some o → h'.get? b = some o)) E) F.called_set.init.plain F.entry_set_init (check_set_init_1 hT ?_)) fun r2 z2 hr2 => ?_
        · obtain ⟨⟨tc, td, tdata, tsl⟩, ho, hc, tn, hd⟩ := hl
          simp only at hc hd
          subst hc hd
          have ho2 : (s.heap.push (Froz.sObj "set" (#[], 0, .fresh 0 0 led))).get? l = some { cls := .type "list", dict := td, data := .seq its tn, slots := tsl } := Heap.get?_push_of_some _ ho
          have q1 := F.sub_list_set
          have q2 := F.sub_list_frozenset
          have q3 : (Value.type "list" == Value.type "dict") = false := by decide
          have lis : (s.heap.push (Froz.sObj "set" (#[], 0, .fresh 0 0 led))).IsList l its := ⟨_, ho2, rfl, tn, rfl⟩
          have lS : l < s.heap.objs.size := Heap.lt_size ho
          have pz : (s.heap.push (Froz.sObj "set" (#[], 0, .fresh 0 0 led))).objs.size = s.heap.objs.size + 1 := Heap.size_push ..
          unfold Builtin.«set.__init__» noKeywords Builtin.Frozenset.updateFrom
          generalize hPI : pyIter = PI
          unfold Froz.sObj at *
          wp_walk
          subst hPI
          refine wpAny_pyIter_list lis (wpAny_bind (wpAny_runValue ?_))
          have hn3 : A.in1.in1.in1.handled = none := by simp [hh]
          have vals : ∀ (j : Nat) (v : Value), its[j]? = some v → ∃ t, v = .str (xs.getD j Str.empty) t := fun j v hv => SS.strs_at hi j v (by rw [Array.getElem?_toList]; exact hv)
          refine set_eats ((Walks.list hn3 _ l (by rw [Heap.size_push]; exact Nat.ne_of_lt (Nat.lt_succ_of_lt lS)) its).toS) (a := s.heap.objs.size) (by
            simp only [List.mem_cons, List.not_mem_nil, or_false, not_or]
            exact ⟨by rw [Heap.size_push]; exact (Nat.succ_ne_self _).symm, Nat.ne_of_gt lS⟩) sz.symm (by omega) vals (its.size - 0) 0 _ (by omega) (Nat.zero_le _) ⟨⟨_, Heap.get?_push_size _ rfl, rfl, rfl⟩, lis.push _⟩ ?_ ?_
          · refine ⟨(#[], 0, .fresh 0 0 led), [], Heap.get?_push_of_some _ hS, ⟨Froz.TxOk.nil rfl, fun e he => by simp at he, .nil, List.Pairwise.nil, ?_⟩, List.nodup_nil, Nat.zero_le _, fun y => by simp⟩
            show _ ∨ led = true
            rw [← hled]
            cases w.params.followText "set-order"
            · exact .inr rfl
            · exact .inl rfl
          · rintro ⟨h', g', d', tk', os'⟩ mv se
            obtain rfl : g' = s.gens := mv.gens
            obtain rfl : d' = s.drawn := mv.drawn
            obtain rfl : os' = s.os := mv.os
            refine wpAny_pure (wpAny_pure ⟨rfl, h', tk', rfl, by rw [← sz]; exact se, fun b o hb e => mv.heap b o ?_ (Heap.get?_push_of_some _ (Heap.get?_push_of_some _ e))⟩)
            simp only [List.mem_cons, List.not_mem_nil, or_false, not_or]
            exact ⟨Nat.ne_of_lt hb, by rw [Heap.size_push]; exact Nat.ne_of_lt (Nat.lt_succ_of_lt hb)⟩
        · cases r2 with
          | error e => exact hr2
          | ok f2 =>
            cases f2 with
            | next => exact hr2.elim
            | brk => exact hr2.elim
            | cont => exact hr2.elim
            | ret v =>
              obtain ⟨rfl, h', tk, rfl, se, kp⟩ := hr2
              repeat (any_goals (first | assumption | wp_step))
              exact fin _ _ se kp)⟩))
end
end K2
end
section
set_option Elab.async false
set_option maxRecDepth 100000
set_option linter.all false
namespace K2
open PySem PySem.Spec PyProof.Rows L2
section
variable {p : Program} {w : World} {A : Around} {E : Value → Shared → Prop} {s : Shared}
/-- sorted(a), a set of texts, fewer than 64 -/
theorem sorted_has {a : Addr} {xs : List Str} {n : Nat} {Q : Value → Shared → Prop} (S : HasS p w s.heap a xs n) (hh : A.handled = none) (h64 : n < 64)
    (fin : ∀ z q (out : Array Value) (c : Nat) (ys : List Str), (∀ b o, s.heap.get? b = some o → z.heap.get? b = some o) → z.gens = s.gens → z.os = s.os → s.heap.objs.size ≤ q →
      z.heap.get? q = some (seqObj "list" out c) → StrsAre out.toList ys → ys.Nodup → ys.length ≤ n → (∀ y, y ∈ ys ↔ y ∈ xs) → sortedS ys = true → Q (.ref q) z) :
    wpAny (model p w) A (call (.builtin "sorted") [.ref a]) Q E s := by
  obtain ⟨⟨es, ep, t⟩, l, ho, W, nd, le, me⟩ := S
  have few : es.size < scanBound := by
    have : es.size = l.length := W.ok.sz
    unfold scanBound
    omega
  refine Calls.call_function_entry kind_sorted plain_sorted entry_sorted (args_sorted1 _) (by
    unfold Builtin.«sorted»
    refine wpAny_bind (m := checkCount "sorted" 1 1 _) (wpAny_pure (wpAny_bind (collect_set (A := A.in1) hh ⟨_, ho, rfl, rfl⟩ W.ok.fit few W.rs W.ld fun z vs k1 hz g1 o1 pm => ?_)))
    have sv : StrsAre vs (vs.map strOf) := strsAre_map vs fun v hv => by
      obtain ⟨e, he, q⟩ := List.mem_map.mp (pm.mem_iff.mp hv)
      obtain ⟨u, hu⟩ := W.tx e he
      exact ⟨_, u, q.symm.trans hu⟩
    have pl : (vs.map strOf).Perm l := by
      have q := pm.map strOf
      rw [List.map_map] at q
      refine q.trans ((List.Perm.of_eq (List.map_congr_left fun e he => ?_)).trans W.pm)
      obtain ⟨u, hu⟩ := W.tx e he
      show strOf e.2 = sTxt e
      rw [hu]
      rfl
    have vl : vs.length = l.length := by rw [← pl.length_eq, List.length_map]
    refine wpAny_bind (wpAny_newList ?_ (by rw [vl, sizeLine_eq]; omega))
    have ol : (z.heap.push (seqObj "list" vs.toArray 0)).get? z.heap.objs.size = some (seqObj "list" vs.toArray 0) := Heap.get?_push_size _ rfl
    refine wpAny_bind (wpAny_holding (wpAny_call_entry slot_list_sort ⟨_, ol, rfl⟩ entry_list_sort (list_sort_treeKAny strKind_oneLt ol sv.keysOf (fun v1 v2 rest e => keyKind_strs (by rw [← e]; exact sv)) (by rw [vl, sizeLine_eq]; omega) fun st hp hs => ⟨_, rfl, ?_⟩) (args_list_sort _)))
    obtain ⟨ys, y1, y2, y3⟩ := sorted_out_str sv hp hs
    obtain ⟨c, hc⟩ := sortedHeap_at (vs := vs) (out := (arrOf st).map (·.2)) ol
    have py := y2.trans pl
    refine wpAny_pure ⟨_, rfl, fin _ z.heap.objs.size _ c ys (fun b u e => ?_) g1 o1 hz hc y1 (py.nodup_iff.mpr nd) (by rw [py.length_eq]; exact le) (fun y => (py.mem_iff).trans (me y)) y3⟩
    have lt := Heap.lt_size (k1 b u e)
    show (sortedHeap (z.heap.push (seqObj "list" vs.toArray 0)) z.heap.objs.size vs _).get? b = some u
    rw [sortedHeap_old (Nat.ne_of_lt lt) (by rw [size_push']; exact Nat.lt_succ_of_lt lt)]
    exact Heap.get?_push_of_some _ (k1 b u e))
end
end K2
end
section
set_option Elab.async false
set_option maxRecDepth 100000
set_option linter.all false
namespace K2
open PySem PySem.Spec PyProof.Rows L2
def tSortedSet (te : TE) : TE := fun σ H Q => te σ H fun x H1 => ∃ (l : Addr) (xs : List Str), x = .ref l ∧ H1 l = some (.lst (xs.map V.str)) ∧ xs.length < 64 ∧
  ∀ (ys : List Str) (q : Addr), ys.Nodup → ys.length ≤ xs.length → (∀ y, y ∈ ys ↔ y ∈ xs) → sortedS ys = true → H1 q = none → Q (.ref q) (upd H1 q (.lst (ys.map V.str)))
section
variable {X : Cx}
/-- sorted(set(l)), l a list of texts -/
theorem pe_sortedSet {a : Expr} {ta : TE} {p1 p2 p3 pos : Pos} (h1 : Gl X "sorted") (h2 : X.mg "sorted" = none) (h3 : Gl X "set") (h4 : X.mg "set" = none) (ha : PE X a ta) (hc : X.calm = true := by rfl)
    (na : starEach [a] X.env = (false, eval a X.env) :: starEach [] X.env := by rfl) (bs : bootBuiltins "sorted" = some (.builtin "sorted") := by decide +kernel) : PE X (.Call (.Name "sorted" p1) [.Call (.Name "set" p2) [a] [] p3] [] pos) (tSortedSet ta) := by
  refine ⟨fun pins s σ H Q I h => Call_ (ld_blt I h1 h2 bs (callWith_builtin1 (args_cons (Call_ (ld_blt I h3 h4 boot_set (callWith_type1 (args_cons (thn (ha.run pins s σ H _ I h) fun v s1 ⟨x, H1, I1, r1, q1⟩ => args_nil ?_) na) na rfl))) rfl) rfl rfl))⟩
  obtain ⟨l, xs, rfl, hl, few, q⟩ := q1
  cases r1
  obtain ⟨its, r, pl, _⟩ := I1.list (SqL.of hl)
  have hx : StrsAre its xs := by simpa using strsAre_of r
  refine set_of_lst (I1.ok.hd hc) pl.isList (by simpa using hx) (by omega) fun h' tk hS hk => args_nil ?_
  have I2 : Inv X pins σ H1 { s1 with heap := h', toks := tk } := I1.kept fun b o e => hk b o (Heap.lt_size e) e
  have hS2 : HasS X.prog X.w ({ s1 with heap := h', toks := tk } : Shared).heap s1.heap.objs.size xs xs.length := hS
  generalize ({ s1 with heap := h', toks := tk } : Shared) = s2 at I2 hS2 ⊢
  refine sorted_has hS2 (I1.ok.hd hc) few fun z p out c ys k g o hp hg hi nd le me so => ?_
  have hlen : (ys.map V.str).length ≤ sizeLine := by rw [List.length_map, sizeLine_eq]; omega
  have hn : H1 p = none := I2.hok.fresh hp
  have J : Inv X pins σ (upd H1 p (.lst (ys.map V.str))) { s2 with heap := z.heap, gens := z.gens, drawn := z.drawn, toks := z.toks } :=
    I2.call (ch := []) (Un.laid k hp hn) (I2.hok.laid k hp ⟨hlen, out.toList, c, vals_of_strs hi, hg⟩) (by rw [g]; exact I2.bare) (fun _ z => nomatch z)
  have e : z = { s2 with heap := z.heap, gens := z.gens, drawn := z.drawn, toks := z.toks } := by
    cases z
    cases s2
    cases o
    rfl
  rw [e]
  exact ⟨.ref p, _, J, rfl, q ys p nd le me so hn⟩
end
end K2
end
section
set_option Elab.async false
set_option maxRecDepth 100000
set_option linter.all false
namespace K2
open PySem L2 PySem.Spec PyProof.Rows
section
variable {X : Cx} {CX : CXT} {k : Nat} {f C : Addr} {fd : FuncData} {ps : List Str} {sp : Sp} {E : XK}
/-- a def called somewhere below -/
theorem run_at {A : Around} {pins : List (Addr × Obj)} {σ : L2.St} {H : Hp} {s : Shared} {Q : VK} {us : List Value} {vs : List V} (F : FnOk X.prog X.w X.K X.mg X.base CX k f fd ps sp) (hb : Binds X.K fd ps []) (hx : Passes CX X E) (sb : Sub X k A) (I : Inv X pins σ H s) (rv : Vals vs us) (hsp : sp vs H Q E) :
    wpAny (model X.prog X.w) A (call (.ref f) us) (EP X pins σ Q) X.xe s := by
  have e0 : Env0 X.prog X.w X.K X.mg X.base A X.stack s H := by
    have e := I.env0
    exact ⟨by rw [sb.fr]; exact e.frames, e.mod, e.bs, e.bsz, e.funs, e.frf, e.hok, e.bare⟩
  have hl : us.length = ps.length := by rw [← rv.length]; exact F.len _ _ _ _ hsp
  have b2 := hb s us I.kIn (by simpa using hl)
  rw [List.append_nil] at b2
  refine wpAny_call (codeAny_mono (F.run A X.stack s H ⟨us, []⟩ us vs Q E sb.room e0 b2 rv hsp) fun r s' hq => ?_)
  cases r with
  | error e => exact hx pins σ H s e s' I hq
  | ok fl =>
    cases fl with
    | ret w => exact I.after hq
    | next => exact False.elim hq
    | brk => exact False.elim hq
    | cont => exact False.elim hq
/-- len(o) -/
theorem call_lenO (F : FnOk X.prog X.w X.K X.mg X.base CX k f fd ps sp) (hb : Binds X.K fd ps []) (hx : Passes CX X E) (hr : Room (k + 1) X.A) (hs : PySem.W.findIn X.K (.ref C) "__len__" = some (some (.ref f))) (hf : PySem.W.isFn X.K (.ref f) = true) :
    CallR X (.builtin "len") (fun xs H Q => ∃ a dx fs, xs = [.ref a] ∧ H a = some (.ins C dx fs) ∧ sp [.ref a] H (fun v H' => ∃ n : Nat, v = .int n ∧ n < 1000000 ∧ Q (.int n) H') E) := by
  intro pins s σ H xs us Q I r h
  obtain ⟨a, dx, fs, rfl, ha, hsp⟩ := h
  obtain ⟨u, rfl, ru⟩ := r.one
  cases ru
  obtain ⟨mA, J, _⟩ := ins_get I.hok ha
  obtain ⟨od, J, _⟩ := J.look
  obtain ⟨m, hF⟩ := I.fr
  refine PySem.W.len_K hF I.ok.mod.kin J hs hf (wpAny_mono (run_at (vs := [.ref a]) F hb hx (Sub.in1 ⟨hr, rfl⟩) I (.cons rfl .nil) hsp) (fun v s' q => ?_) fun _ _ x => x)
  obtain ⟨x, H', I', rx, n, rfl, hn, q⟩ := q
  obtain ⟨t, rfl⟩ := rx
  exact ⟨⟨by omega, by omega⟩, .int n, H', I'.tok _, ⟨_, rfl⟩, q⟩
/-- x in o -/
theorem op_inO (F : FnOk X.prog X.w X.K X.mg X.base CX k f fd ps sp) (hb : Binds X.K fd ps []) (hx : Passes CX X E) (hr : Room k X.A) (hs : PySem.W.findIn X.K (.ref C) "__contains__" = some (some (.ref f))) (hf : PySem.W.isFn X.K (.ref f) = true) :
    OpR X (compareOp .In) (fun x y H Q => ∃ a dx fs, y = .ref a ∧ H a = some (.ins C dx fs) ∧ sp [.ref a, x] H (fun v H' => ∃ b, v = .bl b ∧ Q (.bl b) H') E) := by
  intro pins s σ H x y v u Q I rx ry h
  obtain ⟨a, dx, fs, rfl, ha, hsp⟩ := h
  cases ry
  obtain ⟨mA, J, _⟩ := ins_get I.hok ha
  obtain ⟨od, J, _⟩ := J.look
  obtain ⟨m, hF⟩ := I.fr
  refine PySem.W.in_K hF I.ok.mod.kin J hs hf (wpAny_mono (run_at (vs := [.ref a, x]) F hb hx ⟨hr, rfl⟩ I (.cons rfl (.cons rx .nil)) hsp) (fun r s' q => ?_) fun _ _ x => x)
  obtain ⟨z, H', I', rz, b, rfl, q⟩ := q
  cases rz
  exact wpAny_truthy_bool ⟨.bl b, H', I', rfl, q⟩
/-- the right side's type, not above the class -/
def RightT (K : PySem.W.Frag) (C : Addr) (H : Hp) (y : V) : Prop := ∃ t, TyX K H y t ∧ PySem.W.notFirst K C t = true
/-- o == y -/
theorem op_eqO (F : FnOk X.prog X.w X.K X.mg X.base CX k f fd ps sp) (hb : Binds X.K fd ps []) (hx : Passes CX X E) (hr : Room k X.A) (hu : X.A.units < cLine) (hs : PySem.W.findIn X.K (.ref C) "__eq__" = some (some (.ref f))) (hf : PySem.W.isFn X.K (.ref f) = true) :
    OpR X (compareOp .Eq) (fun x y H Q => ∃ a dx fs, x = .ref a ∧ H a = some (.ins C dx fs) ∧ RightT X.K C H y ∧ sp [.ref a, y] H (fun v H' => ∃ b, v = .bl b ∧ Q (.bl b) H') E) := by
  intro pins s σ H x y v u Q I rx ry h
  obtain ⟨a, dx, fs, rfl, ha, ⟨t, ty, hn⟩, hsp⟩ := h
  cases rx
  obtain ⟨mA, J, _⟩ := ins_get I.hok ha
  obtain ⟨od, J, _⟩ := J.look
  obtain ⟨m, hF⟩ := I.fr
  obtain ⟨Pz, Z, p, _⟩ := kit_of I ry ty
  show wpAny (model X.prog X.w) X.A (richCompare .Eq (.ref a) u) (EP X pins σ Q) X.xe s
  have lk : PySem.W.Looks (model X.prog X.w) s.heap (typeOf u) t := Z.ty _ _ I.kIn p
  refine PySem.W.cmp_K (op := .Eq) hu hF I.ok.mod.kin J lk hn hs hf (wpAny_mono (run_at (vs := [.ref a, y]) F hb hx ⟨hr, rfl⟩ I (.cons rfl (.cons ry .nil)) hsp) (fun r s' q => ?_) fun _ _ x => x)
  obtain ⟨z, H', I', rz, b, rfl, q⟩ := q
  cases rz
  exact ⟨.bl b, H', I', rfl, q⟩
/-! o != y: by object's own, which asks the class's == -/
theorem bound_ne {M : Model} {A : Around} {Er : Value → Shared → Prop} {s : Shared} {K : PySem.W.Frag} {x C : Addr} {ox : Obj} {od : Option Obj} {args : List Value} {Q : Option Value → Shared → Prop} (Y : K.In s.heap) (J : PySem.W.InstAt s.heap x ox C od)
    (hs : PySem.W.findIn K (.ref C) "__ne__" = some (some (.builtin "object.__ne__"))) (h : wpAny M A (call (.builtin "object.__ne__") (.ref x :: args)) (fun v => Q (some v)) Er s) : wpAny M A (callSpecialIfBound? (.ref x) "__ne__" args) Q Er s := by
  simp only [callSpecialIfBound?, bindSpecialIfBound?]
  refine wpAny_holding (wpAny_bind (wpAny_bind (wpAny_bind (J.type.here ((PySem.W.looks_findIn Y hs).here ?_)))))
  refine wpAny_bind (wpAny_askSetting (wpAny_ite ?_))
  have go : wpAny M A (call (.builtin "object.__ne__") ([.ref x] ++ args) >>= fun v => pure (some v)) Q Er s := wpAny_bind (wpAny_mono h (fun v s' q => wpAny_pure q) fun _ _ q => q)
  split
  · exact wpAny_bind (wpAny_of_eq (F.cmp_object.ne.bind _) (wpAny_pure (by exact go)))
  · exact wpAny_tryCatch (wpAny_bind (wpAny_of_eq (F.cmp_object.ne.bind _) (wpAny_pure (by exact go))))
theorem entry_ne {prog : Program} {w : World} {A : Around} {Er : Value → Shared → Prop} {s : Shared} {K : PySem.W.Frag} {x C f : Addr} {y : Value} {ox : Obj} {od : Option Obj} {Q : Fin → Shared → Prop} (Y : K.In s.heap) (J : PySem.W.InstAt s.heap x ox C od) (hu : A.units < cLine)
    (hs : PySem.W.findIn K (.ref C) "__eq__" = some (some (.ref f))) (hf : PySem.W.isFn K (.ref f) = true)
    (h : wpAny (model prog w) A (call (.ref f) [.ref x, y]) (fun v s' => ∃ b, v = .bool b ∧ Q (.done (.ret (.bool (!b)))) s') Er s) : wpAny (model prog w) A (Builtin.«object.__ne__» ⟨[.ref x, y], []⟩) Q Er s := by
  unfold Builtin.«object.__ne__»
  repeat (first
    | with_reducible refine wpAny_cRoomFor hu ?_
    | (refine wpAny_bind (m := callSpecialIfBound? (.ref x) (Str.ofString "__eq__") [y]) (PySem.W.ifBound_K Y J hs hf (wpAny_mono h (fun r s' hr => by
          obtain ⟨b, rfl, hq⟩ := hr
          repeat (first | exact hq | exact wpAny_pure hq | exact wpAny_truthy_bool hq | (refine wpAny_bind (m := truthy (.bool _)) (wpAny_truthy_bool ?_)) | wp_step)) fun _ _ e => e)))
    | wp_step)
theorem try_ne {prog : Program} {w : World} {A : Around} {Er : Value → Shared → Prop} {s : Shared} {K : PySem.W.Frag} {x C f : Addr} {y : Value} {ox : Obj} {od : Option Obj} {Q : Option Value → Shared → Prop} (Y : K.In s.heap) (J : PySem.W.InstAt s.heap x ox C od) (hu : A.units + 1 < cLine)
    (hn : PySem.W.findIn K (.ref C) "__ne__" = some (some (.builtin "object.__ne__"))) (hm : PySem.W.mroIn K C (.type "object") = some true) (hs : PySem.W.findIn K (.ref C) "__eq__" = some (some (.ref f))) (hf : PySem.W.isFn K (.ref f) = true)
    (h : wpAny (model prog w) A.in1 (call (.ref f) [.ref x, y]) (fun v s' => ∃ b, v = .bool b ∧ Q (some (.bool (!b))) s') Er s) : wpAny (model prog w) A (tryCompare (.ref x) "__ne__" y) Q Er s := by
  unfold tryCompare
  refine wpAny_bind (bound_ne Y J hn (wpAny_call (codeAny_call_builtin F.cmp_object.ne.plain F.cmpEntry_ne (PySem.W.check_slot F.cmpKind_ne F.cmpSplit_ne (J.type.andThen (PySem.W.looks_mroIn Y hm)) (F.cmpArgs_ne _ _)
    (entry_ne (A := A.in1) Y J hu hs hf (wpAny_mono h (fun v s' hv => ?_) fun _ _ e => e))))))
  obtain ⟨b, rfl, hq⟩ := hv
  exact ⟨b, rfl, wpAny_pure hq⟩
theorem op_neO (F : FnOk X.prog X.w X.K X.mg X.base CX k f fd ps sp) (hb : Binds X.K fd ps []) (hx : Passes CX X E) (hr : Room (k + 1) X.A) (hu : X.A.units + 1 < cLine) (hs : PySem.W.findIn X.K (.ref C) "__eq__" = some (some (.ref f))) (hf : PySem.W.isFn X.K (.ref f) = true)
    (hn : PySem.W.findIn X.K (.ref C) "__ne__" = some (some (.builtin "object.__ne__"))) (hm : PySem.W.mroIn X.K C (.type "object") = some true) :
    OpR X (compareOp .NotEq) (fun x y H Q => ∃ a b dx fs dy gs, x = .ref a ∧ y = .ref b ∧ H a = some (.ins C dx fs) ∧ H b = some (.ins C dy gs) ∧ sp [.ref a, .ref b] H (fun v H' => ∃ c, v = .bl c ∧ Q (.bl (!c)) H') E) := by
  intro pins s σ H x y v u Q I rx ry h
  obtain ⟨a, b, dx, fs, dy, gs, rfl, rfl, ha, hb2, hsp⟩ := h
  cases rx
  cases ry
  obtain ⟨mA, J, _⟩ := ins_get I.hok ha
  obtain ⟨od, J, _⟩ := J.look
  obtain ⟨mB, J2, _⟩ := ins_get I.hok hb2
  obtain ⟨od2, J2, _⟩ := J2.look
  have call := run_at (us := [.ref a, .ref b]) (vs := [.ref a, .ref b]) F hb hx (Sub.in1 ⟨hr, rfl⟩) I (.cons rfl (.cons rfl .nil)) hsp
  show wpAny (model X.prog X.w) X.A (richCompare .NotEq (.ref a) (.ref b)) (EP X pins σ Q) X.xe s
  unfold richCompare
  simp only [oneThing_ref]
  refine wpAny_holding (wpAny_bind (wpAny_cRoomFor (Nat.lt_of_succ_lt hu) ?_))
  rw [cmpInfo_NotEq]
  dsimp only
  refine wpAny_bind (J.type.here (wpAny_bind (J2.type.here ?_)))
  rw [show (Value.ref C != Value.ref C) = false from by simp]
  simp only [Bool.false_eq_true, if_false]
  refine wpAny_bind (wpAny_pure ?_)
  simp only [Bool.false_eq_true, if_false]
  refine wpAny_bind (try_ne I.kIn J hu hn hm hs hf (wpAny_mono call (fun r s' q => ?_) fun _ _ x => x))
  obtain ⟨z, H', I', rz, c, rfl, q⟩ := q
  cases rz
  exact ⟨c, rfl, wpAny_pure ⟨.bl (!c), H', I', rfl, q⟩⟩
end
end K2
end
section
set_option Elab.async false
set_option maxRecDepth 100000
set_option linter.all false
namespace K2
open PySem L2 PySem.Spec PyProof.Rows
/-- the staticmethod m of the class at C is the def at g -/
structure SMet (K : PySem.W.Frag) (C : Addr) (mc : Value) (m : Str) (p g : Addr) : Prop where
  at_ : PySem.W.findCls K (.ref C) mc m = some (.get (.builtin "staticmethod.__get__") (.ref p) .none (.ref C))
  rc : ∃ rest, PySem.W.recIn K p "staticmethod" = some (.ref g :: rest)
  kp : PySem.W.keepIn K (.ref g) = true
section
variable {X : Cx} {CX : CXT} {k : Nat} {f g C p : Addr} {mc : Value} {fd : FuncData} {ps ks : List Str} {sp : Sp} {E : XK} {m x : Str} {o e : Expr} {q pos apos nap : Pos} {ta te tk : TE} {tks : TA} {kws : List Keyword}
/-- C.m(), m a staticmethod -/
theorem pe_smeth0 {pl : Sem Bool} (he : PE X o ta) (r : ClX.CRead X.K C mc) (c : SMet X.K C mc m p g) (F : FnOk X.prog X.w X.K X.mg X.base CX k g fd [] sp) (hb : Binds X.K fd [] []) (hr : Room k X.A) (hx : Passes CX X E)
    (ht : eval (.Call (.Attribute o m apos) [] [] pos) X.env = (do
      let ov ← eval o X.env
      standAt apos.atName
      let (f, first) ← holding [ov] (getMethod ov m pl)
      callWith pos f first (backTo pos (starEach [] X.env)) (backToKw pos (keywordEach [] X.env))) := by rfl) : PE X (.Call (.Attribute o m apos) [] [] pos) (fun σ H Q => ta σ H fun z H1 => z = .ref C ∧ sp [] H1 Q E) := by
  constructor
  intro pins s σ H Q I h
  refine PySem.W.methodCall_KW (pl := pl) (thn (he.run pins s σ H _ I h) fun u s1 ⟨z, H1, I1, rz, ez, hs⟩ => ?_) ht
  subst ez
  obtain rfl : u = Value.ref C := rz
  obtain ⟨rest, hp⟩ := c.rc
  refine PySem.W.method_cls I1.kIn r.ga (PySem.W.cls_bind I1.kIn r.rd c.at_ (wpAny_call (PySem.W.sm_get (s := { s1 with toks := s1.toks + 1 }) I1.kIn hp (PySem.W.handed_on rfl ?_))))
  have I2 := I1.tok (s1.toks + 1)
  exact PySem.W.callWith_K0 (first := []) I2.kIn c.kp (run_at (us := []) (vs := []) F hb hx ⟨hr, rfl⟩ I2 .nil hs)
/-- x(), x a class whose __init__ takes any number of things -/
theorem pe_makeR0 (M : Mk X.K C f) (F : FnR X.prog X.w X.K X.mg X.base CX k f sp) (hr : Room (k + 1) X.A) (hg : Gl X x) (hm : X.mg x = some (.ref C)) (hx : Passes CX X E) (hdb : (x == ("__debug__" : Str)) = false := by decide) :
    PE X (.Call (.Name x nap) [] [] pos) (fun σ H Q => ∀ y dx, H y = none → H dx = none → dx ≠ y → sp [V.ref y] (upd (upd H dx (.own y)) y (.ins C dx [])) (fun v H2 => v = .non ∧ Q (.ref y) H2) E) := by
  constructor
  intro pins s σ H Q I h
  refine wpAny_Call_Name_kw (ld_glob I hg hm ?_ hdb)
  exact PySem.W.callWith_K0 (first := []) I.kIn M.kp (StX.run_makeR (us := []) (vs := []) M F hr hx I .nil h)
/-- x(*e) -/
theorem pe_makeSG (M : Mk X.K C f) (F : FnR X.prog X.w X.K X.mg X.base CX k f sp) (hr : Room (k + 1) X.A) (hg : Gl X x) (hm : X.mg x = some (.ref C)) (hx : Passes CX X E) (he : PE X e te) (hdb : (x == ("__debug__" : Str)) = false := by decide)
    (hst : starEach [.Starred e q] X.env = [(true, eval e X.env)] := by rfl) : PE X (.Call (.Name x nap) [.Starred e q] [] pos) (fun σ H Q => te σ H fun z H1 => ∃ a xs, z = .ref a ∧ (SqT X.K H1 a xs ∨ SqL X.K H1 a xs) ∧ ∀ y dx, H1 y = none → H1 dx = none → dx ≠ y →
      sp (V.ref y :: xs) (upd (upd H1 dx (.own y)) y (.ins C dx [])) (fun v H2 => v = .non ∧ Q (.ref y) H2) E) := by
  constructor
  intro pins s σ H Q I h
  refine wpAny_Call_Name_kw (ld_glob I hg hm ?_ hdb)
  refine PySem.W.callWith_S (h₀ := X.base) I.ok.mod.kin M.kp (thn (he.run pins s σ H _ I h) fun v s2 ⟨z, H2, I2, rz, a, xs, ez, hxs, h2⟩ => ?_) hst
  subst ez
  obtain rfl : v = Value.ref a := rz
  exact StX.star_any I2 hxs fun us s3 I3 rv => ⟨I3.kIn, StX.run_makeR M F hr hx I3 rv h2⟩
/-- o.m(), m takes any number of things -/
theorem pe_methR0 {pl : Sem Bool} (he : PE X o ta) (c : Cls X.K C) (hm : Meth X.K C m f) (F : FnR X.prog X.w X.K X.mg X.base CX k f sp) (hr : Room k X.A) (hx : Passes CX X E)
    (ht : eval (.Call (.Attribute o m apos) [] [] pos) X.env = (do
      let ov ← eval o X.env
      standAt apos.atName
      let (f, first) ← holding [ov] (getMethod ov m pl)
      callWith pos f first (backTo pos (starEach [] X.env)) (backToKw pos (keywordEach [] X.env))) := by rfl) : PE X (.Call (.Attribute o m apos) [] [] pos) (fun σ H Q => ta σ H fun z H1 => ∃ a dx fs, z = .ref a ∧ H1 a = some (.ins C dx fs) ∧ fs.lookup m = none ∧ sp [.ref a] H1 Q E) := by
  constructor
  intro pins s σ H Q I h
  refine PySem.W.methodCall_KW (pl := pl) (thn (he.run pins s σ H _ I h) fun u s1 ⟨z, H1, I1, rz, a, dx, fs, ez, ea, l, hs⟩ => ?_) ht
  subst ez
  obtain rfl : u = Value.ref a := rz
  exact getmeth_ok I1 ea c hm l (PySem.W.callWith_K0 (first := [.ref a]) I1.kIn hm.kp (wpAny_call (run_fnR (us := [.ref a]) (vs := [.ref a]) F hr hx I1 (.cons rfl .nil) hs)))
/-- C.m(k = v, ..), m a classmethod -/
theorem pe_cmethK {pl : Sem Bool} {gr : List Value → List Value → List Value} {gV : List V → List V → List V} (he : PE X o ta) (r : ClX.CRead X.K C mc) (c : ClX.CMet X.K C mc m p g) (F : FnOk X.prog X.w X.K X.mg X.base CX k g fd ps sp) (hr : Room k X.A) (hb : KBn X.K fd ps 1 ks gr gV) (hx : Passes CX X E) (hkw : PK X kws tks)
    (hall : (backToKw pos (keywordEach kws X.env)).all (·.1.isSome) = true := by rfl) (hks : (backToKw pos (keywordEach kws X.env)).filterMap (·.1) = ks := by rfl) (hpl : ((backTo pos (starEach [] X.env)).any (·.1) || (backToKw pos (keywordEach kws X.env)).any (·.1.isNone)) = false := by rfl)
    (ht : eval (.Call (.Attribute o m apos) [] kws pos) X.env = (do
      let ov ← eval o X.env
      standAt apos.atName
      let (f, first) ← holding [ov] (getMethod ov m pl)
      callWith pos f first (backTo pos (starEach [] X.env)) (backToKw pos (keywordEach kws X.env))) := by rfl) :
    PE X (.Call (.Attribute o m apos) [] kws pos) (fun σ H Q => ta σ H fun z H1 => z = .ref C ∧ tks σ H1 fun zs H2 => zs.length = ks.length ∧ sp (gV [.ref C] zs) H2 Q E) := by
  constructor
  intro pins s σ H Q I h
  refine PySem.W.methodCall_KW (pl := pl) (thn (he.run pins s σ H _ I h) fun u s1 ⟨z, H1, I1, rz, ez, hs⟩ => ?_) ht
  subst ez
  obtain rfl : u = Value.ref C := rz
  refine ClX.getmethcm_ok I1 r c fun s2 I2 => ?_
  refine PySem.W.callWith_of (P := PySem.W.MethP X.K s1.heap.objs.size g (.ref C)) hpl (PySem.W.keeps_M c.fi) (evalArgs_kw2_nil hall (thn (hkw.run pos _ s2 σ H1 _ I2 hs) fun ws s3 ⟨zs, H2, I3, rw', l2, q2⟩ => ⟨⟨ClX.pin_at I3, I3.kIn⟩, ?_⟩))
  rw [hks]
  have z : wpAny (model X.prog X.w) X.A (call (.ref s1.heap.objs.size) [] (ks.zip ws)) (EP X ((s1.heap.objs.size, PySem.W.methodObj (.ref g) (.ref C)) :: pins) σ Q) X.xe s3 := by
    refine wpAny_call (PySem.W.method_call (ClX.pin_at I3) (codeAny_mono (F.run X.A X.stack s3 H2 ⟨[.ref C], ks.zip ws⟩ (gr [.ref C] ws) (gV [.ref C] zs) Q E hr I3.env0 (hb.to s3 [.ref C] ws I3.kIn rfl (by rw [← l2, rw'.length])) (hb.rel (vs := [.ref C]) (us := [.ref C]) (.cons rfl .nil) rw') q2) fun y z hq => ?_))
    cases y with
    | error e => exact hx _ σ H2 s3 e z I3 hq
    | ok fl =>
      cases fl with
      | ret u => exact I3.after hq
      | next => exact hq.elim
      | brk => exact hq.elim
      | cont => exact hq.elim
  exact thn z fun _ _ y => ClX.unpinE y
end
end K2
end
section
set_option Elab.async false
set_option maxRecDepth 100000
set_option linter.all false
namespace K2
open PySem L2 PySem.Spec PyProof.Rows
theorem strs_dp (K : PySem.W.Frag) (H : Hp) : ∀ xs : List Str, DpAll K H (xs.map V.str) (xs.map PyData.str)
  | [] => .nil
  | x :: xs => .cons (.str x) (strs_dp K H xs)
def sOk (x : Str) : Bool := x.cps.all (· < 0x110000)
theorem strs_lay : ∀ xs : List Str, (∀ x ∈ xs, sOk x = true) → PyData.canLayAll0 (xs.map PyData.str) = true
  | [], _ => rfl
  | x :: xs, h => by
    show (sOk x && PyData.canLayAll0 (xs.map PyData.str)) = true
    rw [strs_lay xs fun y hy => h y (List.mem_cons_of_mem _ hy), h x List.mem_cons_self]
    rfl
theorem strs_depth : ∀ xs : List Str, PyData.depthAll (xs.map PyData.str) = 0
  | [] => rfl
  | x :: xs => by
    show max 0 (PyData.depthAll (xs.map PyData.str)) = 0
    rw [strs_depth xs]
    rfl
theorem strs_shaped (xs : List Str) (h : ∀ x ∈ xs, sOk x = true) : SeqAt.shaped (.list (xs.map PyData.str)) = true := by
  show (PyData.canLayAll0 (xs.map PyData.str) && decide (PyData.depthAll (xs.map PyData.str) + 1 ≤ 64)) = true
  rw [strs_lay xs h, strs_depth]
  rfl
theorem strs_eqv0 (xs : List Str) : PyData.eqv (.list (xs.map PyData.str)) (.list []) = decide (xs = []) := by
  cases xs with
  | nil => rfl
  | cons x xs => rfl
/-! ### repr of any data of the heap without dicts -/
def rReprD (K : PySem.W.Frag) : List V → Hp → VK → Prop := fun xs H Q => ∃ a d, xs = [V.ref a] ∧ Dp K H (.ref a) d ∧ d.showable = true ∧ d.hasDict = false ∧ d.depth ≤ 8 ∧ d.shown.length ≤ sizeLine ∧ Q (.str d.shown) H
section
variable {X : Cx}
theorem call_reprD (gu : X.A.guards = some []) (hu : X.A.units + 64 < cLine) : CallR X (.builtin "repr") (rReprD X.K) := by
  intro pins s σ H xs us Q I r h
  obtain ⟨a, d, rfl, hd, hs, hn, dp, hz, q⟩ := h
  obtain ⟨u, rfl, ru⟩ := r.one
  cases ru
  obtain ⟨as, rd⟩ := Dp.reads I d (V.ref a) (Value.ref a) hd rfl
  exact repr_of_reads' rd hs (fun z => by rw [hn] at z; cases z) gu (by omega) (fun b o e => e) (fun h' u tk hk => ⟨.str _, H, I.kept (t' := tk) hk, ⟨u, rfl⟩, q⟩) hz
end
/-- a tuple of texts -/
def tD (ys : List Str) : PyData := .tuple (ys.map PyData.str)
theorem strs_show : ∀ xs : List Str, PyData.showableAll (xs.map PyData.str) = true
  | [] => rfl
  | x :: xs => by
    show (true && PyData.showableAll (xs.map PyData.str)) = true
    rw [strs_show xs]
    rfl
theorem strs_nodict : ∀ xs : List Str, PyData.hasDictAll (xs.map PyData.str) = false
  | [] => rfl
  | x :: xs => by
    show (false || PyData.hasDictAll (xs.map PyData.str)) = false
    rw [strs_nodict xs]
    rfl
theorem strs_weight : ∀ xs : List Str, (∀ x ∈ xs, x.length ≤ 8) → PyData.weightAll (xs.map PyData.str) ≤ 9 * xs.length
  | [], _ => Nat.le_refl _
  | x :: xs, h => by
    have ih := strs_weight xs fun y hy => h y (List.mem_cons_of_mem _ hy)
    have hx : x.cps.size ≤ 8 := h x List.mem_cons_self
    show x.cps.size + 1 + PyData.weightAll (xs.map PyData.str) ≤ 9 * (xs.length + 1)
    omega
theorem tD_show (ys : List Str) : (tD ys).showable = true := strs_show ys
theorem tD_nodict (ys : List Str) : (tD ys).hasDict = false := strs_nodict ys
theorem tD_depth (ys : List Str) : (tD ys).depth = 1 := by
  show PyData.depthAll (ys.map PyData.str) + 1 = 1
  rw [strs_depth]
theorem tD_fits {ys : List Str} (ok : ∀ y ∈ ys, sOk y = true) (h8 : ∀ y ∈ ys, y.length ≤ 8) (hl : ys.length ≤ 40) : (tD ys).shown.length ≤ sizeLine := by
  refine PyData.shown_fits_of_layable0 (B := 13) (by decide) (by decide) ?_ (PyData.intsShortAll_strs 13 ys)
  have w := strs_weight ys h8
  have q : PyData.weight (tD ys) = PyData.weightAll (ys.map PyData.str) := rfl
  show (PyData.canLayAll0 (ys.map PyData.str) && decide (PyData.depth (tD ys) ≤ 64) && decide (PyData.weight (tD ys) ≤ 2 ^ 20)) = true
  rw [strs_lay ys ok, tD_depth, q]
  simp only [Bool.true_and, Bool.and_eq_true, decide_eq_true_eq]
  omega
/-! rows shown -/
def rowsD (rs : List Row) : PyData := .tuple (rs.map fun r => tD (r.1 :: r.2))
theorem rows_dp (K : PySem.W.Frag) {H : Hp} : ∀ (rs : List Row) (ts : List Addr), RowsAt H ts rs → DpAll K H (ts.map V.ref) (rs.map fun r => tD (r.1 :: r.2))
  | [], [], _ => .nil
  | [], _ :: _, h => absurd h.1 (by simp)
  | _ :: _, [], h => absurd h.1 (by simp)
  | r :: rs, t :: ts, h => .cons (.tup (SqT.of (h.2 0 t r rfl rfl)) (strs_dp K H (r.1 :: r.2))) (rows_dp K rs ts ⟨by have := h.1; simpa using this, fun i u q a b => h.2 (i + 1) u q a b⟩)
theorem rows_show : ∀ rs : List Row, PyData.showableAll (rs.map fun r => tD (r.1 :: r.2)) = true
  | [] => rfl
  | r :: rs => by
    show (PyData.showable (tD (r.1 :: r.2)) && PyData.showableAll (rs.map fun r => tD (r.1 :: r.2))) = true
    rw [tD_show, rows_show rs]
    rfl
theorem rows_nodict : ∀ rs : List Row, PyData.hasDictAll (rs.map fun r => tD (r.1 :: r.2)) = false
  | [] => rfl
  | r :: rs => by
    show (PyData.hasDict (tD (r.1 :: r.2)) || PyData.hasDictAll (rs.map fun r => tD (r.1 :: r.2))) = false
    rw [tD_nodict, rows_nodict rs]
    rfl
theorem rows_depth : ∀ rs : List Row, PyData.depthAll (rs.map fun r => tD (r.1 :: r.2)) ≤ 1
  | [] => Nat.zero_le _
  | r :: rs => by
    show max (PyData.depth (tD (r.1 :: r.2))) (PyData.depthAll (rs.map fun r => tD (r.1 :: r.2))) ≤ 1
    rw [tD_depth]
    exact Nat.max_le.mpr ⟨Nat.le_refl _, rows_depth rs⟩
structure RowFit (r : Row) : Prop where
  ok : ∀ y ∈ r.1 :: r.2, sOk y = true
  h8 : ∀ y ∈ r.1 :: r.2, y.length ≤ 8
  len : (r.1 :: r.2).length ≤ 40
theorem rows_lay : ∀ rs : List Row, (∀ r ∈ rs, RowFit r) → PyData.canLayAll0 (rs.map fun r => tD (r.1 :: r.2)) = true
  | [], _ => rfl
  | r :: rs, h => by
    have q : PyData.canLay0 (tD (r.1 :: r.2)) = true := strs_lay _ (h r List.mem_cons_self).ok
    show (PyData.canLay0 (tD (r.1 :: r.2)) && PyData.canLayAll0 (rs.map fun r => tD (r.1 :: r.2))) = true
    rw [q, rows_lay rs fun y hy => h y (List.mem_cons_of_mem _ hy)]
    rfl
theorem rows_short : ∀ rs : List Row, PyData.intsShortAll 13 (rs.map fun r => tD (r.1 :: r.2)) = true
  | [] => rfl
  | r :: rs => by
    have q : PyData.intsShort 13 (tD (r.1 :: r.2)) = true := PyData.intsShortAll_strs 13 (r.1 :: r.2)
    show (PyData.intsShort 13 (tD (r.1 :: r.2)) && PyData.intsShortAll 13 (rs.map fun r => tD (r.1 :: r.2))) = true
    rw [q, rows_short rs]
    rfl
theorem rows_weight : ∀ rs : List Row, (∀ r ∈ rs, RowFit r) → PyData.weightAll (rs.map fun r => tD (r.1 :: r.2)) ≤ 361 * rs.length
  | [], _ => Nat.le_refl _
  | r :: rs, h => by
    have R := h r List.mem_cons_self
    have w := strs_weight (r.1 :: r.2) R.h8
    have l := R.len
    have ih := rows_weight rs fun y hy => h y (List.mem_cons_of_mem _ hy)
    show PyData.weightAll ((r.1 :: r.2).map PyData.str) + 1 + PyData.weightAll (rs.map fun r => tD (r.1 :: r.2)) ≤ 361 * (rs.length + 1)
    omega
theorem rowsD_show (rs : List Row) : (rowsD rs).showable = true := rows_show rs
theorem rowsD_nodict (rs : List Row) : (rowsD rs).hasDict = false := rows_nodict rs
theorem rowsD_depth (rs : List Row) : (rowsD rs).depth ≤ 2 := by
  have := rows_depth rs
  show PyData.depthAll (rs.map fun r => tD (r.1 :: r.2)) + 1 ≤ 2
  omega
theorem rowsD_fits {rs : List Row} (h : ∀ r ∈ rs, RowFit r) (hl : rs.length ≤ 40) : (rowsD rs).shown.length ≤ sizeLine := by
  refine PyData.shown_fits_of_layable0 (B := 13) (by decide) (by decide) ?_ (rows_short rs)
  have w := rows_weight rs h
  have d := rowsD_depth rs
  have q : PyData.weight (rowsD rs) = PyData.weightAll (rs.map fun r => tD (r.1 :: r.2)) := rfl
  show (PyData.canLayAll0 (rs.map fun r => tD (r.1 :: r.2)) && decide (PyData.depth (rowsD rs) ≤ 64) && decide (PyData.weight (rowsD rs) ≤ 2 ^ 20)) = true
  rw [rows_lay rs h, q]
  simp only [Bool.true_and, Bool.and_eq_true, decide_eq_true_eq]
  omega
theorem vw_ok {x : Str} (h : VW x) : sOk x = true ∧ x.length ≤ 8 := by
  have l := h.le
  refine ⟨?_, l⟩
  have q := h.low
  unfold sOk
  rw [Array.all_eq_true]
  intro i hi
  have := q x.cps[i] (by
    show x.cps[i] ∈ x.cps.toList
    exact Array.getElem_mem_toList hi)
  simp only [decide_eq_true_eq]
  omega
theorem Good.fit {rs : List Row} (g : Good rs) (h30 : rs.length ≤ 30) : ∀ r ∈ rs, RowFit r := by
  intro r hr
  obtain ⟨i, hi⟩ := List.getElem?_of_mem hr
  have R := g i r hi
  have il : i < rs.length := (List.getElem?_eq_some_iff.mp hi).1
  have vw : ∀ y ∈ r.1 :: r.2, VW y := fun y hy => by
    rcases List.mem_cons.mp hy with rfl | hy
    · exact R.vw
    · exact g.vw_known i y (R.sub y hy)
  refine ⟨fun y hy => (vw_ok (vw y hy)).1, fun y hy => (vw_ok (vw y hy)).2, ?_⟩
  have := R.nd.length_le_of_subset R.sub
  rw [knownAt_len (Nat.le_of_lt il)] at this
  rw [List.length_cons]
  omega
theorem RowsAt.left {H : Hp} {ts1 ts2 : List Addr} {rs1 rs2 : List Row} (h : RowsAt H (ts1 ++ ts2) (rs1 ++ rs2)) (e : ts1.length = rs1.length) : RowsAt H ts1 rs1 := by
  refine ⟨e, fun i t r a b => ?_⟩
  have i1 := (List.getElem?_eq_some_iff.mp a).1
  have i2 := (List.getElem?_eq_some_iff.mp b).1
  exact h.2 i t r (by rw [List.getElem?_append_left i1]; exact a) (by rw [List.getElem?_append_left i2]; exact b)
theorem refs_ne_pen {ts : List Addr} {c : Addr} {a l : Int} : HO.lst (ts.map V.ref) ≠ penO c a l := by
  unfold penO
  intro e
  injection e with e
  match ts, e with
  | [], e => simp at e
  | [_], e => simp at e
  | _ :: _ :: _, e => simp at e
theorem Pen.refs_ne {H : Hp} {p c q : Addr} {ns : List Int} {n : Nat} {ts : List Addr} (h : Pen H p c ns n) (hq : H q = some (.lst (ts.map V.ref))) : q ≠ p := fun e => by
  obtain ⟨a, l, g, _⟩ := h.pen
  rw [e, g] at hq
  exact refs_ne_pen (Option.some.inj hq).symm
theorem tD_eqv (x : Str) : PyData.eqv (tD [x]) (tD [x]) = true := by
  show ((x == x) && true) = true
  simp
theorem tD_shaped (xs : List Str) (h : ∀ x ∈ xs, sOk x = true) : SeqAt.shaped (tD xs) = true := by
  show (PyData.canLayAll0 (xs.map PyData.str) && decide (PyData.depthAll (xs.map PyData.str) + 1 ≤ 64)) = true
  rw [strs_lay xs h, strs_depth]
  rfl
theorem Tab.mp {p : Addr} {f : List Str → HO} {H H' : Hp} {kvs : List (Key × V)} {t : Tb} (h : Tab f H kvs t) (k : Keep p H H') (n : ∀ us, H p ≠ some (f us)) : Tab f H' kvs t := h.mono fun a us e => k a _ e fun q => n us (q ▸ e)
theorem any_filter {α : Type} (p : α → Bool) : ∀ l : List α, (!decide (l.filter p = [])) = l.any p
  | [] => rfl
  | x :: l => by
    rw [List.filter_cons, List.any_cons]
    cases h : p x with
    | true => simp
    | false => simpa using any_filter p l
theorem op_neDK {X : Cx} {K' : PySem.W.Frag} (hK : X.K = K') (hu : X.A.units + 64 < cLine) : OpR X (compareOp .NotEq) (rNeD K') := by
  subst hK
  exact op_neD hu
theorem call_reprBl {X : Cx} : CallR X (.builtin "repr") (fun xs H Q => ∃ b, xs = [V.bl b] ∧ Q (.str (if b then "True" else "False")) H) := by
  intro pins s σ H xs us Q I r h
  obtain ⟨b, rfl, q⟩ := h
  obtain ⟨u, rfl, ru⟩ := r.one
  obtain rfl : u = Value.bool b := ru
  exact PySem.P.repr_of_bool ⟨.str _, H, I.tok _, ⟨_, rfl⟩, q⟩
theorem ClsW.kp {C p c b : Addr} {ns : List Int} {n : Nat} {H H' : Hp} {rs : List Row} (h : ClsW C H b rs) (k : Keep p H H') (P : Pen H p c ns n) : ClsW C H' b rs := by
  obtain ⟨a, l, g, _⟩ := P.pen
  obtain ⟨dx, r, m, d, kvs, ts, h1, h2, h3, h4, h5, h6⟩ := h
  have nt : ∀ (q : Addr) (xs : List V), H q = some (.tup xs) → q ≠ p := fun q xs e z => by
    rw [z, g] at e
    cases e
  refine ⟨dx, r, m, d, kvs, ts, k _ _ h1 fun e => ?_, k _ _ h2 fun e => ?_, h3.mono fun a us e => k a _ e fun q => ?_, k _ _ h4 (nt _ _ h4), k _ _ h5 (nt _ _ h5), h6.mono fun b r e => k b _ e (nt _ _ e)⟩
  · rw [e, g] at h1
    cases h1
  · rw [e, g] at h2
    cases h2
  · rw [q, g] at e
    unfold penO fD at e
    cases e
theorem pe_fldK {X : Cx} {K' : PySem.W.Frag} {e : Expr} {f : Str} {pos : Pos} {ta : TE} (hK : X.K = K') (he : PE X e ta) (hb : attributeBase e f X.env (eval e X.env) = eval e X.env) : PE X (.Attribute e f pos) (tFld K' ta f) := by
  subst hK
  exact pe_fld he hb
theorem ClsW.same {C p : Addr} {H H' : Hp} {rs : List Row} (h : ClsW C H p rs) (s : Same H H') : ClsW C H' p rs := by
  obtain ⟨dx, r, n, l, kvs, ts, h1, h2, h3, h4, h5, h6⟩ := h
  exact ⟨dx, r, n, l, kvs, ts, s _ _ h1, s _ _ h2, h3.mono fun a us e => s a _ e, s _ _ h4, s _ _ h5, h6.mono fun b r e => s b _ e⟩
theorem strs_eqv : ∀ xs ys : List Str, PyData.eqvAll (xs.map PyData.str) (ys.map PyData.str) = decide (xs = ys)
  | [], [] => rfl
  | [], _ :: _ => rfl
  | _ :: _, [] => rfl
  | x :: xs, y :: ys => by
    show ((x == y) && PyData.eqvAll (xs.map PyData.str) (ys.map PyData.str)) = decide (x :: xs = y :: ys)
    rw [strs_eqv xs ys, Bool.eq_iff_iff]
    simp
theorem rows_eqv : ∀ rs qs : List Row, PyData.eqvAll (rs.map fun r => tD (r.1 :: r.2)) (qs.map fun r => tD (r.1 :: r.2)) = decide (rs = qs)
  | [], [] => rfl
  | [], _ :: _ => rfl
  | _ :: _, [] => rfl
  | r :: rs, q :: qs => by
    show (PyData.eqvAll ((r.1 :: r.2).map PyData.str) ((q.1 :: q.2).map PyData.str) && PyData.eqvAll (rs.map fun r => tD (r.1 :: r.2)) (qs.map fun r => tD (r.1 :: r.2))) = decide (r :: rs = q :: qs)
    rw [strs_eqv, rows_eqv rs qs, Bool.eq_iff_iff]
    obtain ⟨a, as⟩ := r
    obtain ⟨b, bs⟩ := q
    simp
theorem rowsD_eqv (rs qs : List Row) : PyData.eqv (rowsD rs) (rowsD qs) = decide (rs = qs) := rows_eqv rs qs
theorem rowsD_shaped {rs : List Row} (h : ∀ r ∈ rs, RowFit r) : SeqAt.shaped (rowsD rs) = true := by
  have d := rowsD_depth rs
  show (PyData.canLayAll0 (rs.map fun r => tD (r.1 :: r.2)) && decide (PyData.depth (rowsD rs) ≤ 64)) = true
  rw [rows_lay rs h]
  simp only [Bool.true_and, decide_eq_true_eq]
  omega
end K2
end
section
set_option Elab.async false
set_option maxRecDepth 100000
set_option linter.all false
namespace K2
open PySem L2 PySem.Spec PyProof.Rows
abbrev sPlain : Stmt := inClass (top 23) 1
abbrev sLen : Stmt := inClass (top 23) 3
abbrev sCo : Stmt := inClass (top 23) 4
abbrev sEq : Stmt := inClass (top 23) 5
abbrev sWR : Stmt := inClass (top 23) 7
structure Own (K : PySem.W.Frag) (C : Addr) : Prop where
  ha : PySem.W.findIn K (.ref C) "__class__" = some (some (.builtin "object.__class__"))
  hn : PySem.W.specialIn K (.builtin "object.__class__") "__get__" = some (some (.builtin "getset_descriptor.__get__"))
  htk : PySem.W.takesIn K (.builtin "object.__class__") = some true
  hm : PySem.W.mroIn K C (.type "object") = some true
theorem ClsW.ty {K : PySem.W.Frag} {C p : Addr} {H : Hp} {rs : List Row} (h : ClsW C H p rs) (c : Cls K C) (o : Own K C) : TyX K H (.ref p) (.ref C) := by
  obtain ⟨dx, r, n, l, kvs, ts, h1, _⟩ := h
  exact .base (.ins h1 c o.ha o.hn o.htk o.hm)
theorem ClsW.ins {C p : Addr} {H : Hp} {rs : List Row} (h : ClsW C H p rs) : ∃ dx fs, H p = some (.ins C dx fs) ∧ ∀ m : Str, ¬ m = "_lines" → ¬ m = "names" → ¬ m = "rows" → fs.lookup m = none := by
  obtain ⟨dx, r, n, l, kvs, ts, h1, _⟩ := h
  exact ⟨dx, _, h1, fun m a b c => flds_no r n l a b c⟩
theorem kit_own {K : PySem.W.Frag} (C : Addr) : PySem.W.kitOne K (.ref C) (.ref C) = some true := by
  unfold PySem.W.kitOne
  rw [if_pos (by simp)]
theorem right_own {K : PySem.W.Frag} {C p : Addr} {H : Hp} {rs : List Row} (h : ClsW C H p rs) (c : Cls K C) (o : Own K C) : RightT K C H (.ref p) := ⟨_, h.ty c o, by unfold PySem.W.notFirst; simp⟩
def spLenC (C : Addr) : Sp := fun vs H Q _ => ∃ (p : Addr) (rs : List Row), vs = [.ref p] ∧ ClsW C H p rs ∧ Q (.int ((rs.length + 2 : Nat) : Int)) H
def spCo (K : PySem.W.Frag) (C : Addr) : Sp := fun vs H Q _ => ∃ (p : Addr) (x : V) (rs : List Row), vs = [.ref p, x] ∧ ClsW C H p rs ∧
  ((∃ y, x = .str y ∧ Q (.bl (decide (y ∈ keys (ups rs)))) H) ∨ (∃ t, TyX K H x t ∧ PySem.W.kitOne K t (.type "str") = some false ∧ Q (.bl false) H))
def spEqC (K : PySem.W.Frag) (C : Addr) : Sp := fun vs H Q _ => ∃ (p : Addr) (y : V) (rs : List Row), vs = [.ref p, y] ∧ ClsW C H p rs ∧ (∀ r ∈ rs, RowFit r) ∧
  ((∃ q qs, y = .ref q ∧ ClsW C H q qs ∧ (∀ r ∈ qs, RowFit r) ∧ Q (.bl (decide (rs = qs))) H) ∨ (∃ t, TyX K H y t ∧ PySem.W.kitOne K t (.ref C) = some false ∧ Q (.bl false) H))
def spWR (C : Addr) : Sp := fun vs H Q _ => ∃ (p t : Addr) (rs qs : List Row) (ts : List Addr), vs = [.ref p, .ref t] ∧ ClsW C H p rs ∧ H t = some (.tup (ts.map V.ref)) ∧ RowsAt H ts qs ∧ Good (rs ++ qs) ∧ (rs ++ qs).length ≤ 30 ∧
  ∀ (r : Addr) (H' : Hp), ClsW C H' r (rs ++ qs) → Same H H' → Q (.ref r) H'
def spWRr (C : Addr) : Sp := fun vs H Q E => ∃ ws rest, vs = ws ++ rest ∧ ws.length = 1 ∧ rest.length ≤ sizeLine ∧ ∀ p, H p = none → spWR C (ws ++ [V.ref p]) (upd H p (.tup rest)) Q E
def spInitR (C : Addr) : Sp := fun vs H Q E => ∃ ws rest, vs = ws ++ rest ∧ ws.length = 1 ∧ rest.length ≤ sizeLine ∧ ∀ p, H p = none → spInit C (ws ++ [V.ref p]) (upd H p (.tup rest)) Q E
def spPlain (C : Addr) : Sp := fun vs H Q _ => vs = [] ∧ ∀ (r : Addr) (H' : Hp), ClsW C H' r [] → Same H H' → Q (.ref r) H'
theorem RowsAt.app {H : Hp} {ts1 ts2 : List Addr} {rs1 rs2 : List Row} (h1 : RowsAt H ts1 rs1) (h2 : RowsAt H ts2 rs2) : RowsAt H (ts1 ++ ts2) (rs1 ++ rs2) := by
  refine ⟨by simp [h1.1, h2.1], fun i t r a b => ?_⟩
  by_cases hi : i < ts1.length
  · rw [List.getElem?_append_left hi] at a
    rw [List.getElem?_append_left (by rw [← h1.1]; exact hi)] at b
    exact h1.2 i t r a b
  · rw [List.getElem?_append_right (by omega)] at a
    rw [List.getElem?_append_right (by have := h1.1; omega), ← h1.1] at b
    exact h2.2 _ t r a b
/-- what the making of Classes of rows asks -/
theorem initR {C : Addr} {H : Hp} {ts : List Addr} {rs : List Row} {Q : VK} {E : XK} (R : RowsAt H ts rs) (g : Good rs) (h30 : rs.length ≤ 30) (k : ∀ (r : Addr) (H' : Hp), ClsW C H' r rs → Same H H' → Q (.ref r) H') :
    ∀ x dx, H x = none → H dx = none → dx ≠ x → spInitR C (V.ref x :: ts.map V.ref) (upd (upd H dx (.own x)) x (.ins C dx [])) (fun v H2 => v = .non ∧ Q (.ref x) H2) E := by
  intro x dx nx ndx ne
  refine ⟨[V.ref x], _, rfl, rfl, ?_, fun pt hpt => ?_⟩
  · rw [List.length_map, R.1]; show _ ≤ 16777216; omega
  have s1 : Same H (upd (upd H dx (.own x)) x (.ins C dx [])) := ((Same.refl H).put ndx).put nx
  have s2 : Same H (upd (upd (upd H dx (.own x)) x (.ins C dx [])) pt (.tup (ts.map V.ref))) := s1.put (s1.free hpt)
  exact ⟨x, dx, pt, ts, rs, rfl, by rw [upd_ne (ne_of_none upd_same hpt), upd_same], upd_same, R.mono fun b r e => s2 b _ e, g, h30, fun H' cl kp => ⟨rfl, k x H' cl fun b o e => kp b o (s2 b o e) (ne_of_none e nx)⟩⟩
theorem wr_bind (kV doc pm : Value) (an : Option Addr) (cdv ct : Value) : ∀ us rest : List Value, us.length = ["self"].length → bindArgs (PySem.W.fnOf "with_rows" "Classes.with_rows" (defArgs sWR) (defBody sWR) (defScope sWR) .none kV doc pm an cdv ct) ⟨us ++ rest, []⟩ = (newTuple rest >>= fun t => pure (([("self" : Str)]).zip us ++ [(("rows" : Str), t)])) :=
  StX.bind_star1 (B := fun l => bindArgs (PySem.W.fnOf "with_rows" "Classes.with_rows" (defArgs sWR) (defBody sWR) (defScope sWR) .none kV doc pm an cdv ct) ⟨l, []⟩) (fun a => rfl) (fun a r rs => rfl)
section
variable {P : Program} {w : World} {K : PySem.W.Frag} {mg : Str → Option Value} {base : Heap}
theorem scLenC : FnScope ["self"] ["self"] (defScope sLen) := ⟨rfl, rfl, rfl, by decide +kernel, rfl, by decide +kernel, by decide +kernel⟩
theorem scCo : FnScope ["self", "x"] ["self", "x"] (defScope sCo) := ⟨rfl, rfl, rfl, by decide +kernel, rfl, by decide +kernel, by decide +kernel⟩
theorem scEq : FnScope ["self", "other"] ["self", "other"] (defScope sEq) := ⟨rfl, rfl, rfl, by decide +kernel, rfl, by decide +kernel, by decide +kernel⟩
theorem scWR : FnScope ["self", "rows", "both"] ["self", "rows"] (defScope sWR) := ⟨rfl, rfl, rfl, by decide +kernel, rfl, by decide +kernel, by decide +kernel⟩
theorem scPlain : FnScope [] [] (defScope sPlain) := ⟨rfl, rfl, rfl, by decide +kernel, rfl, by decide +kernel, by decide +kernel⟩
theorem ok_lenC {f C : Addr} {fd : FuncData} (F : Fun K "__len__" "Classes.__len__" sLen f fd) (Y : Txt K mg C) (T : Bi mg) : FnOk P w K mg base CX0 1 f fd ["self"] (spLenC C) := by
  refine F.ok scLenC (fun vs H Q E h => ?_) (fun cdv A outer s H vs Q E hr h => ?_)
  · obtain ⟨p, rs, rfl, _⟩ := h
    rfl
  · obtain ⟨p, rs, rfl, cw, k⟩ := h
    refine ⟨_, pss_one (ps_ret (pe_callB call_len_seq (by rfl) T.len PySem.boot_len (pa_cons (pe_fld (pv 0) rfl) pa_nil))), ?_⟩
    obtain ⟨dx, r, n, l, kvs, ts, h1, _, _, h4, _, _⟩ := cw
    refine ⟨_, rfl, p, C, dx, _, _, rfl, h1, Y.cl, Y.nN, flds_names _ _ _, n, _, rfl, .inr (SqT.of h4), ?_⟩
    rw [List.length_map, keys_ups]
    have e : (base0 ++ rs.map (·.1)).length = rs.length + 2 := by
      rw [List.length_append, List.length_map]
      show 2 + rs.length = rs.length + 2
      omega
    rw [e]
    exact k
theorem ok_co {f C : Addr} {fd : FuncData} (F : Fun K "__contains__" "Classes.__contains__" sCo f fd) (Y : Txt K mg C) (T : Bi mg) : FnOk P w K mg base CX0 1 f fd ["self", "x"] (spCo K C) := by
  refine F.ok scCo (fun vs H Q E h => ?_) (fun cdv A outer s H vs Q E hr h => ?_)
  · obtain ⟨p, x, rs, rfl, _⟩ := h
    rfl
  · obtain ⟨p, x, rs, rfl, cw, k⟩ := h
    refine ⟨_, pss_one (ps_ret (pe_and (pe_callB call_isi (by rfl) T.isinstance (by decide +kernel) (pa_cons (pv 1) (pa_cons (pe_bltn (v := .ty "str") (by rfl) T.str (by decide +kernel) rfl) pa_nil))) (pe_one (pe_cmpR op_in_seq (pv 1) (pe_fld (pv 0) rfl) rfl)))), ?_⟩
    obtain ⟨dx, r, n, l, kvs, ts, h1, _, _, h4, _, _⟩ := cw
    rcases k with ⟨y, rfl, k⟩ | ⟨t, ht, hk, k⟩
    · refine ⟨_, rfl, _, _, _, _, true, rfl, .ty _, .base (.str y), kit_ty (by decide +kernel), _, rfl, ?_⟩
      refine iteT ⟨_, rfl, _, rfl, p, C, dx, _, _, rfl, h1, Y.cl, Y.nN, flds_names _ _ _, n, _, rfl, .inr (SqT.of h4), rfl, flat_strs _, ?_⟩
      rw [if_neg Bool.false_ne_true, inV_strs]
      exact k
    · exact ⟨_, rfl, _, _, _, _, false, rfl, .ty _, ht, hk, _, rfl, iteF k⟩
theorem ok_eq {f C : Addr} {fd : FuncData} (F : Fun K "__eq__" "Classes.__eq__" sEq f fd) (Y : Txt K mg C) (T : Bi mg) (O : Own K C) : FnOk P w K mg base CX0 1 f fd ["self", "other"] (spEqC K C) := by
  refine F.ok scEq (fun vs H Q E h => ?_) (fun cdv A outer s H vs Q E hr h => ?_)
  · obtain ⟨p, x, rs, rfl, _⟩ := h
    rfl
  · obtain ⟨p, x, rs, rfl, cw, fit, k⟩ := h
    refine ⟨_, pss_one (ps_ret (pe_and (pe_callB call_isi (by rfl) T.isinstance (by decide +kernel) (pa_cons (pv 1) (pa_cons (pe_glob (v := .ref C) rfl Y.mgC rfl) pa_nil))) (pe_one (pe_cmpR (op_eqD hr.units) (pe_fld (pv 0) rfl) (pe_fld (pv 1) rfl) (nomark _))))), ?_⟩
    rcases k with ⟨q, qs, rfl, cw2, fit2, k⟩ | ⟨t, ht, hk, k⟩
    · refine ⟨_, rfl, _, _, _, _, true, rfl, .own C, cw2.ty Y.cl O, kit_own C, _, rfl, ?_⟩
      obtain ⟨dx, r, n, l, kvs, ts, h1, _, _, _, h5, h6⟩ := cw
      obtain ⟨dy, r2, n2, l2, kvs2, ts2, g1, _, _, _, g5, g6⟩ := cw2
      refine iteT ⟨_, rfl, p, C, dx, _, _, rfl, h1, Y.cl, Y.nR, flds_rows _ _ _, _, rfl, q, C, dy, _, _, rfl, g1, Y.cl, Y.nR, flds_rows _ _ _, rowsD rs, rowsD qs, .tup (SqT.of h5) (rows_dp K rs ts h6), .tup (SqT.of g5) (rows_dp K qs ts2 g6), rowsD_shaped fit, rowsD_shaped fit2, ?_⟩
      rw [rowsD_eqv]
      exact k
    · exact ⟨_, rfl, _, _, _, _, false, rfl, .own C, ht, hk, _, rfl, iteF k⟩
theorem ok_wr {f C fI : Addr} {fd : FuncData} (F : Fun K "with_rows" "Classes.with_rows" sWR f fd) (Y : Txt K mg C) (M : Mk K C fI) (GI : FnR P w K mg base CX0 4 fI (spInitR C)) : FnR P w K mg base CX0 6 f (spWRr C) := by
  obtain ⟨oc, od, kV, doc, pm, an, cdv, ct, osl, rfl, lk, hcd⟩ := F.ex
  refine StX.fn_star (ps := ["self"]) (pv := "rows") lk hcd scWR StX.cxUp_none (wr_bind kV doc pm an cdv ct) fun A outer s H vs Q E hr h => ?_
  obtain ⟨p, t, rs, qs, ts, rfl, cw, ht, R, g, h30, k⟩ := h
  suffices hs : ∃ tt, PSs (cxOf CX0 P w K mg base ["self", "rows", "both"] "Classes.with_rows" (defScope sWR) f cdv A outer s H E).nox (defBody sWR) tt ∧ tt { nx := fun _ H' => Q .non H', rt := Q } (L2.start ["self", "rows", "both"] [V.ref p, V.ref t]) H by
    obtain ⟨tt, h1, h2⟩ := hs
    exact ⟨tt, h1.nox, h2⟩
  refine ⟨_, pss_cons (ps_set (i := 2) scWR.nd rfl (Or.inl rfl) (pe_op op_cat2 (pe_fld (pv 0) rfl) (pv 1))) (pss_one (ps_ret (pe_makeSG M GI hr (by rfl) Y.mgC pass0 (pv 2)))), ?_⟩
  obtain ⟨dx, r, n, l, kvs, ts1, h1, _, _, _, h5, h6⟩ := cw
  rw [List.length_append] at h30
  refine ⟨_, rfl, p, C, dx, _, _, rfl, h1, Y.cl, Y.nR, flds_rows _ _ _, _, rfl, r, t, _, _, rfl, rfl, h5, ht, ?_, fun b H1 s1 hb => ?_⟩
  · rw [List.length_map, List.length_map, h6.1, R.1]; show _ ≤ 16777216; omega
  refine ⟨_, rfl, b, _, rfl, .inl (SqT.of hb), ?_⟩
  rw [← List.map_append]
  exact initR ((h6.app R).mono fun q r e => s1 q _ e) g (by rw [List.length_append]; omega) fun r' H' cl s2 => k r' H' cl (s1.trans s2)
end
end K2
end
section
set_option Elab.async false
set_option maxRecDepth 100000
set_option linter.all false
namespace K2
open PySem L2 PySem.Spec PyProof.Rows
/-! ### sorted of a list of tuples of texts -/
def tk (xs : List Str) : List (Int ⊕ List Nat) := xs.map fun x => Sum.inr x.cps.toList
theorem tk_inj : ∀ {xs ys : List Str}, tk xs = tk ys → xs = ys
  | [], [], _ => rfl
  | [], _ :: _, h => by simp [tk] at h
  | _ :: _, [], h => by simp [tk] at h
  | x :: xs, y :: ys, h => by
    simp only [tk, List.map_cons, List.cons.injEq] at h
    obtain ⟨h1, h2⟩ := h
    have e1 : x = y := by
      cases x with
      | mk a =>
        cases y with
        | mk b =>
          have : a.toList = b.toList := Sum.inr.inj h1
          rw [show a = b from Array.ext' this]
    rw [e1, tk_inj (xs := xs) (ys := ys) h2]
/-- not behind: xs may stand ahead of ys -/
def tle (xs ys : List Str) : Prop := lexLt itemOrd (tk ys) (tk xs) = false
theorem tle_anti {xs ys : List Str} (h1 : tle xs ys) (h2 : tle ys xs) : xs = ys := tk_inj (lex_total (O := itemOrd) _ _ h2 h1)
/-- two ascending rows of the same are one -/
theorem asc_one : ∀ {as bs : List (List Str)}, as.Perm bs → as.Pairwise tle → bs.Pairwise tle → as = bs
  | [], bs, p, _, _ => (List.nil_perm.mp p).symm
  | a :: as, [], p, _, _ => absurd p.length_eq (by simp)
  | a :: as, b :: bs, p, h1, h2 => by
    obtain ⟨a1, a2⟩ := List.pairwise_cons.mp h1
    obtain ⟨b1, b2⟩ := List.pairwise_cons.mp h2
    have e : a = b := by
      rcases List.mem_cons.mp (p.mem_iff.mp (List.mem_cons_self : a ∈ a :: as)) with e | ha
      · exact e
      · rcases List.mem_cons.mp (p.mem_iff.mpr (List.mem_cons_self : b ∈ b :: bs)) with e | hb
        · exact e.symm
        · exact tle_anti (a1 b hb) (b1 a ha)
    subst e
    rw [asc_one p.cons_inv a2 b2]
/-- the texts of the tuple at b -/
def strsAt (H : Hp) (b : Addr) : List Str := match H b with
  | some (.tup vs) => vs.filterMap fun v => match v with | .str x => some x | _ => none
  | _ => []
theorem strsAt_of {H : Hp} {b : Addr} {xs : List Str} (h : H b = some (.tup (xs.map V.str))) : strsAt H b = xs := by
  unfold strsAt
  rw [h]
  show List.filterMap _ (xs.map V.str) = xs
  rw [List.filterMap_map]
  induction xs with
  | nil => rfl
  | cons x xs ih => 
    rw [List.filterMap_cons]
    show x :: _ = _
    rw [show List.filterMap _ xs = xs from ?_]
    clear h ih
    induction xs with
    | nil => rfl
    | cons y ys ih => 
      rw [List.filterMap_cons]
      show y :: _ = _
      rw [ih]
def rSortedTS (K : PySem.W.Frag) : List V → Hp → VK → Prop := fun vs H Q => ∃ (a : Addr) (as : List Addr), vs = [V.ref a] ∧ SqL K H a (as.map V.ref) ∧ (∀ b ∈ as, ∃ xs : List Str, xs ≠ [] ∧ H b = some (.tup (xs.map V.str))) ∧
  ∀ (bs : List Addr) (p : Addr), bs.Perm as → (bs.map (strsAt H)).Pairwise tle → H p = none → Q (.ref p) (upd H p (.lst (bs.map V.ref)))
section
variable {X : Cx} {pins : List (Addr × Obj)} {σ : L2.St} {H : Hp} {s : Shared}
theorem items_strs : ∀ (xs : List Str) (its : List Value) (i : Nat), Vals (xs.map V.str) its → tupItems (fun _ => true) i its = some (tk xs)
  | [], _, _, r => by cases r; rfl
  | x :: xs, _, i, r => by
    cases r with
    | @cons _ u _ us r1 r2 =>
      obtain ⟨t, rfl⟩ : ∃ t, u = Value.str x t := r1
      show (if true = true then (tupItems (fun _ => true) (i + 1) us).map (Sum.inr x.cps.toList :: ·) else none) = _
      rw [if_pos rfl, items_strs xs us (i + 1) r2]
      rfl
theorem key_at (I : Inv X pins σ H s) {b : Addr} {xs : List Str} (h : H b = some (.tup (xs.map V.str))) : G.tupKeyC s.heap (fun _ => true) (.ref b) = some (tk xs) ∧ (xs ≠ [] → ∃ f, TupOf s.heap (fun _ => true) (.ref b) f) := by
  obtain ⟨its, rv, ⟨o, ho, hc, n, hd⟩, _⟩ := I.tuple (SqT.of (K := X.K) h)
  have e := items_strs xs its 0 rv
  refine ⟨?_, fun hne => ?_⟩
  · unfold G.tupKeyC
    have e1 : G.isTupObj s.heap (.ref b) = true := by simp [G.isTupObj, ho, hc]
    rw [if_pos e1]
    simp only [tupKey, ho, hd]
    exact e
  · cases xs with
    | nil => exact absurd rfl hne
    | cons x xs =>
      cases rv with
      | @cons _ u _ us r1 r2 =>
        obtain ⟨t, rfl⟩ : ∃ t, u = Value.str x t := r1
        exact ⟨.str x t, b, o, _, n, rfl, ho, hc, hd, rfl, fun h => absurd h (by decide), fun _ => ⟨x, t, rfl⟩⟩
theorem tups_of (I : Inv X pins σ H s) : ∀ (as : List Addr), (∀ b ∈ as, ∃ xs : List Str, xs ≠ [] ∧ H b = some (.tup (xs.map V.str))) → ∃ fs, TupsOf s.heap (fun _ => true) (as.map Value.ref) fs
  | [], _ => ⟨[], .nil⟩
  | b :: as, h => by
    obtain ⟨fs, t⟩ := tups_of I as fun c hc => h c (List.mem_cons_of_mem _ hc)
    obtain ⟨xs, hne, hb⟩ := h b List.mem_cons_self
    obtain ⟨f, hf⟩ := (key_at I hb).2 hne
    exact ⟨f :: fs, .cons hf t⟩
theorem vals_refs : ∀ {as : List Addr} {us : List Value}, Vals (as.map V.ref) us → us = as.map Value.ref
  | [], _, r => by cases r; rfl
  | a :: as, _, r => by
    cases r with
    | @cons _ u _ us r1 r2 =>
      obtain rfl : u = Value.ref a := r1
      rw [List.map_cons, vals_refs r2]
theorem refs_vals : ∀ (as : List Addr), Vals (as.map V.ref) (as.map Value.ref)
  | [] => .nil
  | a :: as => .cons (show RelV (.ref a) (.ref a) from rfl) (refs_vals as)
theorem map_refs : ∀ (us : List Value) (as : List Addr), us.Perm (as.map Value.ref) → ∃ bs : List Addr, us = bs.map Value.ref ∧ bs.Perm as := by
  intro us as p
  have h : ∀ u ∈ us, ∃ b, u = Value.ref b := fun u hu => by
    obtain ⟨b, _, e⟩ := List.mem_map.mp (p.mem_iff.mp hu)
    exact ⟨b, e.symm⟩
  obtain ⟨bs, e⟩ : ∃ bs : List Addr, us = bs.map Value.ref := by
    clear p
    induction us with
    | nil => exact ⟨[], rfl⟩
    | cons u us ih =>
      obtain ⟨b, rfl⟩ := h u List.mem_cons_self
      obtain ⟨bs, e⟩ := ih fun v hv => h v (List.mem_cons_of_mem _ hv)
      exact ⟨b :: bs, by rw [e]; rfl⟩
  refine ⟨bs, e, ?_⟩
  rw [e] at p
  have q := p.map fun v => match v with | Value.ref b => b | _ => 0
  rw [List.map_map, List.map_map] at q
  have i : ∀ l : List Addr, List.map ((fun v => match v with | Value.ref b => b | _ => 0) ∘ Value.ref) l = l := fun l => by
    induction l with
    | nil => rfl
    | cons x l ih => rw [List.map_cons, ih]; rfl
  rw [i, i] at q
  exact q
theorem cr_sortedTS : CallR X (.builtin "sorted") (rSortedTS X.K) := by
  intro pins s σ H vs us Q I r h
  obtain ⟨a, as, rfl, hs, hx, q⟩ := h
  obtain ⟨its, rv, hl, hz⟩ := I.list hs
  rw [Vals.ref1 r]
  have ei := vals_refs rv
  rw [List.length_map] at hz
  obtain ⟨fs, ht⟩ := tups_of I as hx
  have kat : ∀ b ∈ as, G.tupKeyC s.heap (fun _ => true) (.ref b) = some (tk (strsAt H b)) := fun b hb => by
    obtain ⟨xs, _, e⟩ := hx b hb
    rw [strsAt_of e]
    exact (key_at I e).1
  refine G.sorted_tups (shape := fun _ => true) (fs := fs) hl.isList (by rw [ei]; exact ht) (fun v hv => ?_) (by rw [ei, List.length_map]; exact hz) fun st h1 h2 _ => ?_
  · rw [ei] at hv
    obtain ⟨b, hb, rfl⟩ := List.mem_map.mp hv
    exact ⟨_, kat b hb⟩
  · have p1 : ((arrOf st).toList).Perm (its.zip its) := by
      rw [← pairsOf_toList]
      exact Array.perm_iff_toList_perm.mp h1
    have p2 : ((arrOf st).toList.map Prod.snd).Perm (as.map Value.ref) := by
      have z := p1.map Prod.snd
      rw [List.map_snd_zip (Nat.le_refl _), ei] at z
      exact z
    obtain ⟨bs, eb, pb⟩ := map_refs _ _ p2
    have ms : ∀ p ∈ (arrOf st).toList, p.1 = p.2 := fun p hp => (mem_zip_self (p1.mem_iff.mp hp)).1
    have ez : (arrOf st).size = (pairsOf its).size := h1.size_eq
    obtain ⟨ep, he'⟩ := PyProof.Rows.sortedAll_at s.heap its ((arrOf st).map (·.2))
    have hlen : (bs.map V.ref).length ≤ sizeLine := by rw [List.length_map, pb.length_eq]; exact hz
    refine ⟨.ref _, upd H (s.heap.objs.size + 1) (.lst (bs.map V.ref)), I.laid (t' := s.toks) (fun _ _ => PyProof.Rows.sortedAll_old) (Nat.le_succ _) ⟨hlen, bs.map Value.ref, ep, refs_vals bs, ?_⟩, rfl, q bs _ pb ?_ (I.hok.fresh (Nat.le_succ _))⟩
    · have e2 : (arrOf st).map (·.2) = (bs.map Value.ref).toArray := by
        apply Array.ext'
        rw [Array.toList_map, ← eb]
      rw [← e2]
      exact he'
    · rw [List.pairwise_iff_getElem]
      intro i j hi hj hij
      rw [List.length_map] at hi hj
      have hlb : bs.length = (arrOf st).size := by
        have := congrArg List.length eb
        rw [List.length_map, List.length_map, Array.length_toList] at this
        exact this.symm
      have key : ∀ i (h : i < bs.length), KK (G.tupKindC s.heap fun _ => true) (arrOf st) i = tk (strsAt H bs[i]) := fun i h => by
        have hi2 : i < (arrOf st).size := by omega
        have e0 : (arrOf st)[i]? = some (arrOf st)[i] := Array.getElem?_eq_getElem hi2
        have e1 : ((arrOf st).toList.map Prod.snd)[i]? = (bs.map Value.ref)[i]? := by rw [eb]
        have e3 : (arrOf st)[i].2 = Value.ref bs[i] := by
          rw [List.getElem?_map, List.getElem?_map, Array.getElem?_toList, e0, List.getElem?_eq_getElem h] at e1
          exact Option.some.inj e1
        have e4 : (arrOf st)[i].1 = Value.ref bs[i] := by
          rw [ms _ (by rw [Array.mem_toList_iff]; exact Array.getElem_mem hi2)]
          exact e3
        unfold KK
        rw [e0]
        show ((G.tupKindC s.heap fun _ => true).keyOf (arrOf st)[i].1).getD _ = _
        rw [e4]
        show (G.tupKeyC s.heap (fun _ => true) (.ref bs[i])).getD _ = _
        rw [kat _ (pb.mem_iff.mp (List.getElem_mem h))]
        rfl
      have z := h2 i j (Nat.le_of_lt hij) (by rw [← ez]; omega)
      rw [key i hi, key j hj] at z
      rw [List.getElem_map, List.getElem_map]
      exact z
end
end K2
end
section
set_option Elab.async false
set_option maxRecDepth 100000
set_option linter.all false
namespace K2
open PySem L2 PySem.Spec PyProof.Rows
section
variable {prog : Program} {w : World} {A : Around} {E : Value → Shared → Prop} {s : Shared}
theorem collect_tup {l : Addr} {vs : List Value} {Q : List Value → Shared → Prop} (hl : IsTup s.heap l vs.toArray)
    (h : Q vs { s with heap := (s.heap.push (seqObj "list" #[] 0)).update s.heap.objs.size (Obj.mapSeq (· ++ vs.toArray)) }) (hsz : vs.length ≤ sizeLine := by size_fits) :
    wpAny (model prog w) A (collect (.ref l)) Q E s := by
  obtain ⟨o, ho, hc, n, hd⟩ := id hl
  unfold collect
  refine wpAny_bind (wpAny_runValue (codeAny_builtin entry_proto_collect' ?_))
  show wpAny _ _ (do again (.builtin "list.__iadd__" ⟨[← newList [], .ref l], []⟩)) _ _ s
  refine wpAny_bind (wpAny_newList (wpAny_pure ⟨Code.quiet_builtin _ (by decide +kernel), codeAny_builtin entry_list_iadd' ?_⟩))
  show wpAny _ _ (Builtin.List.listExtendWith (.ref s.heap.objs.size) (.ref l) (.ref s.heap.objs.size)) _ _ { s with heap := s.heap.push (seqObj "list" #[] 0) }
  unfold Builtin.List.listExtendWith
  have ho' : (s.heap.push (seqObj "list" #[] 0)).get? l = some o := Heap.get?_push_of_some _ ho
  refine wpAny_bind (wpAny_typeOf (T := "tuple") ⟨o, ho', hc⟩ ?_)
  have ht : (Value.type "tuple" == Value.type "tuple") = true := by rfl
  rw [if_pos (by rw [ht]; simp)]
  refine wpAny_bind (listItems_at ho' hd ?_)
  refine wpAny_bind (listItems_at (xs := #[]) (n := 0) (Heap.get?_push_size _ rfl) rfl ?_)
  rw [if_neg (by simp)]
  refine wpAny_bind (listUpdate_at (xs := #[]) (n := 0) (Heap.get?_push_size _ rfl) rfl ?_ (Nat.zero_le _) (by show (#[] ++ vs.toArray).size ≤ sizeLine + 1; simp only [Array.size_append, List.size_toArray, List.length_nil]; omega))
  refine wpAny_pure ?_
  show wpAny (model prog w) A (do
      let o ← load s.heap.objs.size
      match o.data with
      | .seq xs _ => pure xs.toList
      | _ => unsupported "internal:collect") Q E { s with heap := (s.heap.push (seqObj "list" #[] 0)).update s.heap.objs.size (Obj.mapSeq (· ++ vs.toArray)) }
  refine wpAny_bind (wpAny_load (get?_update_seq (Heap.get?_push_size _ rfl) _) ?_)
  show wpAny _ _ (pure ((#[] : Array Value) ++ vs.toArray).toList) Q E _
  rw [show ((#[] : Array Value) ++ vs.toArray).toList = vs by simp]
  exact wpAny_pure h
theorem sorted_strs_tup {t : Addr} {vs : List Value} {ss : List Str} {Q : Value → Shared → Prop} (ht : IsTup s.heap t vs.toArray) (hS : StrsAre vs ss) (h64 : vs.length < 64)
    (h : ∀ (a : Addr) (h' : Heap) (out : Array Value) (ss' : List Str) (e : Nat), s.heap.objs.size ≤ a → (∀ b o, s.heap.get? b = some o → h'.get? b = some o) → h'.get? a = some (seqObj "list" out e) → StrsAre out.toList ss' → ss'.Perm ss → sortedS ss' = true → Q (.ref a) { s with heap := h' }) :
    wpAny (model prog w) A (call (.builtin "sorted") [.ref t]) Q E s := by
  refine Calls.call_function_entry kind_sorted plain_sorted entry_sorted (args_sorted1 _) ?_
  unfold Builtin.«sorted»
  refine wpAny_bind (m := checkCount "sorted" 1 1 _) (wpAny_pure ?_)
  refine wpAny_bind (collect_tup ht ?_ (by rw [sizeLine_eq]; omega))
  refine wpAny_bind (wpAny_newList ?_ (by show vs.length ≤ _; rw [sizeLine_eq]; omega))
  have hsz : ((s.heap.push (seqObj "list" #[] 0)).update s.heap.objs.size (Obj.mapSeq (· ++ vs.toArray))).objs.size = s.heap.objs.size + 1 := by
    rw [Heap.size_update, size_push']
  have hoL : (((s.heap.push (seqObj "list" #[] 0)).update s.heap.objs.size (Obj.mapSeq (· ++ vs.toArray))).push (seqObj "list" vs.toArray 0)).get? (s.heap.objs.size + 1) = some (seqObj "list" vs.toArray 0) := by
    rw [← hsz]; exact Heap.get?_push_size _ rfl
  show wpAny _ _ _ _ _ { s with heap := ((s.heap.push (seqObj "list" #[] 0)).update s.heap.objs.size (Obj.mapSeq (· ++ vs.toArray))).push (seqObj "list" vs.toArray 0) }
  rw [hsz]
  refine wpAny_bind (wpAny_holding (wpAny_call_entry slot_list_sort ⟨_, hoL, rfl⟩ entry_list_sort (list_sort_treeK (vs := vs) strKind_oneLt hoL hS.keysOf (fun v₁ v₂ rest e => keyKind_strs (by rw [← e]; exact hS)) h64 fun st' hp hs => ⟨_, rfl, ?_⟩) (args_list_sort _)))
  obtain ⟨ss', e1, e2, e3⟩ := sorted_out_str hS hp hs
  obtain ⟨ep, he⟩ := sortedAll_at s.heap vs ((arrOf st').map (·.2))
  exact wpAny_pure ⟨_, rfl, h _ _ _ ss' ep (Nat.le_succ _) (fun b o e => sortedAll_old e) he e1 e2 e3⟩
end
def rSortedST (K : PySem.W.Frag) : List V → Hp → VK → Prop := fun vs H Q => ∃ (t : Addr) (xs : List Str), vs = [V.ref t] ∧ SqT K H t (xs.map V.str) ∧ xs.length < 64 ∧
  ∀ (ys : List Str) (p : Addr), ys.Perm xs → sortedS ys = true → H p = none → Q (.ref p) (upd H p (.lst (ys.map V.str)))
theorem cr_sortedST {X : Cx} : CallR X (.builtin "sorted") (rSortedST X.K) := by
  intro pins s σ H vs us Q I r h
  obtain ⟨t, xs, rfl, hs, h64, q⟩ := h
  obtain ⟨its, rv, ht, hz⟩ := I.tuple hs
  rw [Vals.ref1 r]
  have hl0 := rv.length
  rw [List.length_map] at hl0
  refine sorted_strs_tup ht rv.strs (by omega) fun a h' out ys ep ha kp he h1 h2 h3 => ?_
  have hlen : (ys.map V.str).length ≤ sizeLine := by rw [List.length_map, h2.length_eq, sizeLine_eq]; omega
  exact ⟨.ref a, upd H a (.lst (ys.map V.str)), I.laid (t' := s.toks) kp ha ⟨hlen, out.toList, ep, vals_of_strs h1, he⟩, rfl, q ys _ h2 h3 (I.hok.fresh ha)⟩
end K2
end
section
set_option Elab.async false
set_option maxRecDepth 100000
set_option linter.all false
set_option maxHeartbeats 2000000
/-! ### a caught error that is kept -/
namespace L2
open PySem PySem.Spec PyProof.Rows
/-- an exception of the class cls, caught and kept, its dict at d -/
def ExT (cls : Value) (d : Option Addr) (a : Addr) : HO := .ext fun h => ∃ (oe : Obj) (vs : Array Value), h.get? a = some oe ∧ Zc cls d oe ∧ oe.data = .fields vs
theorem exT_ok {P : Program} {w : World} {H : Hp} {h : Heap} {a : Addr} {cls : Value} {d : Option Addr} {oe : Obj} {vs : Array Value} (e : h.get? a = some oe) (z : Zc cls d oe) (hd : oe.data = .fields vs) : ObjOk P w H h a (ExT cls d a) :=
  ⟨⟨oe, vs, e, z, hd⟩, ⟨_, e⟩, fun h1 h2 q k => by
    obtain ⟨oe, vs, e, z⟩ := q
    exact ⟨oe, vs, k _ e, z⟩⟩
theorem exT_at {P : Program} {w : World} {H : Hp} {h : Heap} {a : Addr} {cls : Value} {d : Option Addr} (hok : HOk P w H h) (he : H a = some (ExT cls d a)) : ∃ (oe : Obj) (vs : Array Value), h.get? a = some oe ∧ Zc cls d oe ∧ oe.data = .fields vs := by
  have x : ObjOk P w H h a (.ext fun h => ∃ (oe : Obj) (vs : Array Value), h.get? a = some oe ∧ Zc cls d oe ∧ oe.data = .fields vs) := hok a _ he
  exact x.1
section
variable {X : Cx} {pins : List (Addr × Obj)} {σ : St} {H : Hp} {s s' sI : Shared} {B : Heap} {a : Addr} {o : HO}
theorem Inv.landedT (I : Inv X pins σ H sI) (nb : ∀ b o, sI.heap.get? b = some o → b ∉ frs X.stack → B.get? b = some o) (st : B.StaysIn s'.heap) (up : sI.heap.UpToSlots s'.heap) (os : s'.os = sI.os) (ag : AllBare s'.gens)
    (na : H a = none) (ha : sI.heap.get? a = none) (new : ObjOk X.prog X.w (upd H a o) s'.heap a o) : Inv X pins σ (upd H a o) s' := by
  have nf : ∀ b ∈ frs X.stack, ∀ o, sI.heap.get? b = some o → ∃ sl, s'.heap.get? b = some { o with slots := sl } := fun b hb o e => by
    obtain ⟨_, o', e', hd⟩ := I.stack.mem hb
    rw [e] at e'; cases e'
    exact up b o e hd
  have ne : ∀ b u, sI.heap.get? b = some u → b ≠ a := fun b u e z => by
    rw [z, ha] at e
    cases e
  have hk : HOk X.prog X.w H s'.heap := (I.inGround nb).kept st
  have J := I.call (ch := []) (h' := s'.heap) (g' := s'.gens) (t' := s'.toks) (d' := s'.drawn) (H' := upd H a o)
    ⟨fun b o e _ hb _ => st b o (nb b o e hb), fun b o e _ hb _ => nf b hb o e, fun b u e n _ => by rw [upd_ne (ne b u e)]; exact n, fun b o e _ => by
      by_cases hb : b ∈ frs X.stack
      · obtain ⟨sl, q⟩ := nf b hb o e
        exact ⟨_, q⟩
      · exact ⟨o, st b o (nb b o e hb)⟩, fun b _ e => by rw [upd_ne (ne_of_none e na)]; exact e, fun b _ _ e => by rw [upd_ne (ne_of_none e na)]; exact e, fun b ps e => ⟨#[], by rw [upd_ne (ne_of_none e na), e]; simp⟩⟩
    (hk.laidN (fun _ _ e => e) na new) ag (fun _ z => nomatch z)
  obtain ⟨a1, a2, a3, a4, a5⟩ := s'
  have e5 : a5 = sI.os := os
  subst e5
  exact J
theorem Inv.suiteT (I : Inv X pins σ H s) (a : Addr) : Inv (X.suite a (X.pn ++ pins)) [] σ H s :=
  ⟨I.ok.suite _ _, I.os, I.bare, I.base, I.loc, I.cell, I.free, I.freeC, fun p hp => I.pin p (by rw [List.append_nil] at hp; exact hp), I.hok, I.len⟩
theorem Inv.unsuiteT {pn' : List (Addr × Obj)} (I : Inv (X.suite a (X.pn ++ pins)) pn' σ H s) (ok : X.Ok) : Inv X pins σ H s :=
  ⟨ok, I.os, I.bare, I.base, I.loc, I.cell, I.free, I.freeC, fun p hp => I.pin p (List.mem_append_left _ hp), I.hok, I.len⟩
end
/-- what the clause 'except x as n' wishes of an exception that is kept -/
def wAsT (K : PySem.W.Frag) (c : Value) (n i : Nat) (ts : Addr → Value → Option Addr → TS) (Wout : WX) (D : Ends) : WX := fun cls d σ H => σ.length = n →
  ∃ b, PySem.W.exmOne K cls c = some b ∧ (b = true → ∀ a, H a = none → ts a cls d { nx := fun σ' H' => D.nx (σ'.set i none) H', rt := D.rt, bk := fun σ' H' => D.bk (σ'.set i none) H', ct := fun σ' H' => D.ct (σ'.set i none) H' } (σ.set i (some (.ref a))) (upd H a (ExT cls d a))) ∧
    (b = false → Wout cls d σ H)
section
variable {X : Cx} {x n : Str} {c : Value} {i : Nat} {body suite : List Stmt} {b₀ : Stmt} {np pos pos' : Pos} {tb : WX → TS} {ts : Addr → Value → Option Addr → TS} {Wout : WX}
theorem ps_try_asT (hs : X.stack = X.env :: X.outer) (hf : X.env.frame = some X.env.locals) (hN : X.N.Nodup) (hi : X.N[i]? = some n) (hln : X.env.kindOf n = some .local) (hc : Names X x c) (tk : Takes X Wout)
    (hb : ∀ (W : WX) (pn : List (Addr × Obj)) (xe : Value → Shared → Prop), Takes (X.tr pn xe) W → PassesOwn (model X.prog X.w) X.A X.env xe → PSs (X.tr pn xe) body (tb W))
    (hsu : ∀ (a : Addr) (cls : Value) (d : Option Addr) (pn : List (Addr × Obj)), PSs (X.suite a pn) (b₀ :: suite) (ts a cls d)) :
    PS X (.Try body [.ExceptHandler (some (.Name x np)) (some n) (b₀ :: suite) pos'] [] [] pos) (fun D σ H => tb (wAsT X.K c X.N.length i ts Wout D) D σ H) := by
  refine ⟨fun pins s σ H D I h => ?_⟩
  have ok := I.ok
  have hfr : X.A.frames = some (X.env :: X.outer) := by rw [ok.frames, hs]
  have hloc : Loc X.env.scope n := .inl hln
  refine wpAny_Try_except ?_
  refine wpAny_mono ((hb (wAsT X.K c X.N.length i ts Wout D) (X.pn ++ pins) (fun e s₁ => wpAny (model X.prog X.w) X.A (noteFrame e X.env) (fun _ s₂ => wpAny (model X.prog X.w) X.A (setFlight e none) (fun _ s₃ =>
    wpAny (model X.prog X.w) X.A (handleBy e X.env [.ExceptHandler (some (.Name x np)) (some n) (b₀ :: suite) pos']) (SP X pins D) X.xe s₃) X.xe s₂) X.xe s₁) (fun u s' xx => ?_) PassesOwn.looking).run [] s σ H D (I.toTry _) h) (fun f s1 hsp => ?_) (fun e s1 he => he)
  · -- the catch
    obtain ⟨a, B, sI, pins', σ', H', cls, d, rfl, J', nb, up, sky, na, os, ag, hwish⟩ := xx
    have J : Inv X pins σ' H' sI := J'.ofTry ok
    obtain ⟨b, hb1, hyes, hno⟩ := hwish J.len
    have sky' : Sky B (X.env :: X.outer) a (Zc cls d) X.env.locals s'.heap := by rw [← hs]; exact sky
    show wpAny (model X.prog X.w) X.A (noteFrame (.ref a) X.env) _ _ _
    refine Sky.land Zc.steady hfr hf sky' fun h3 fl3 up3 => ?_
    have J3 : Inv X pins σ' H' { s' with heap := h3 } := J.landed nb fl3.1 (up.trans up3) os ag
    obtain ⟨oe3, vs3, he3, hz3, hd3⟩ := fl3.there
    have notFr : ∀ {h : Heap} {o : Obj} {vs : Array Value}, h.FunFrames B (X.env :: X.outer) → h.get? a = some o → o.data = .fields vs → a ∉ frs (X.env :: X.outer) := fun {h o vs} ff e dd hm => by
      obtain ⟨_, o', e', hnf⟩ := ff.mem hm
      rw [e] at e'; cases e'
      exact hnf _ dd
    have nfr := notFr fl3.2.2.1 he3 hd3
    have nL : a ≠ X.env.locals := fun z => nfr (List.mem_filterMap.mpr ⟨X.env, List.mem_cons_self, by rw [hf, z]⟩)
    have nF : a ∉ X.fs := fun hm => by
      obtain ⟨e, he, q⟩ := List.mem_filterMap.mp hm
      exact nfr (List.mem_filterMap.mpr ⟨e, List.mem_cons_of_mem _ he, q⟩)
    have S3 := J3.suite he3 hd3 na nL nF
    refine wpAny_handleBy_cons (codeAny_handlers_test ?_) (by intro q; cases q)
    have LT : PySem.W.Looks (model X.prog X.w) h3 (typeOf (.ref a)) cls := fun A Q E s k q => wpAny_typeOf_ref (k _ _ he3) (by rw [hz3.1]; exact q)
    have LM := PySem.W.exm_one (M := model X.prog X.w) (J3.kIn) LT hb1
    have test : ∀ {Q : Value → Shared → Prop} {E : Value → Shared → Prop}, Q c { s' with heap := h3 } → wpAny (model X.prog X.w) (X.A.mark (some (.ref a))) (eval (.Name x np) X.env) Q E { s' with heap := h3 } := fun {Q E} q => by
      obtain ⟨hg, hdbg, hm | ⟨hm, hv, hnn⟩⟩ := hc
      · exact ld_glob (X := X.suite a ((a, oe3) :: (X.pn ++ pins))) S3 hg hm q hdbg
      · exact ld_blt (X := X.suite a ((a, oe3) :: (X.pn ++ pins))) S3 hg hm hv q hnn hdbg
    refine test (LM.here ?_)
    cases b with
    | true =>
      refine codeAny_handlers_suite_as ?_
      refine HandSPX.lands_againZ fl3 fun h4 fl4 up4 => ?_
      obtain ⟨oe4, vs4, he4, hz4, hd4⟩ := fl4.there
      have hsa : sI.heap.get? a = none := by
        cases e : sI.heap.get? a with
        | none => rfl
        | some o =>
          have z := nb a o e (by rw [hs]; exact nfr)
          rw [fl4.2.1] at z
          cases z
      have J4 : Inv X pins σ' (upd H' a (ExT cls d a)) { s' with heap := h4 } := J.landedT nb fl4.1 ((up.trans up3).trans up4) os ag na hsa (exT_ok he4 hz4 hd4)
      have S4 := J4.suiteT a
      refine store_ok (X := X.suite a (X.pn ++ pins)) (v := .ref a) S4 hN hi hloc rfl (fun s5 S5 => ?_) (.inr hln)
      refine wpAny_mono ((hsu a cls d (X.pn ++ pins)).run [] s5 _ _ _ S5 (hyes rfl a na)) (fun f s6 hsp => ?_) (fun _ _ z => False.elim z)
      have end_ : ∀ {σ6 : St} {H6 : Hp} {Q : Shared → Prop}, Inv (X.suite a (X.pn ++ pins)) [] σ6 H6 s6 → (∀ s7, Inv X pins (σ6.set i none) H6 s7 → Q s7) →
          wpAny (model X.prog X.w) X.A (do bindName X.env n .none; unbindBehindTheSuite X.env n pos') (fun _ s7 => Q s7) X.xe s6 := fun {σ6 H6 Q} S6 hq => gone_ok (S6.unsuiteT ok) hN hi hln hq
      cases f with
      | next =>
        obtain ⟨σ6, H6, S6, q6⟩ := hsp
        exact end_ S6 fun s7 J7 => ⟨_, _, J7, q6⟩
      | brk =>
        obtain ⟨σ6, H6, S6, q6⟩ := hsp
        exact end_ S6 fun s7 J7 => ⟨_, _, J7, q6⟩
      | cont =>
        obtain ⟨σ6, H6, S6, q6⟩ := hsp
        exact end_ S6 fun s7 J7 => ⟨_, _, J7, q6⟩
      | ret u =>
        obtain ⟨v6, σ6, H6, S6, r6, q6⟩ := hsp
        exact end_ S6 fun s7 J7 => ⟨_, _, _, J7, r6, q6⟩
    | false =>
      show wpAny _ X.A (handleBy (.ref a) X.env []) _ _ _
      refine wpAny_handleBy_nil ?_
      obtain ⟨k1, k2, k3, oe, vs, T, oT, ts', he, hz, hd, h1, hr⟩ := id fl3
      unfold PySem.passOn
      refine wpAny_bind (wpAny_field he hd h1 ?_)
      rw [if_neg (show ¬ ((Value.ref T == Value.none) = true) from by simp)]
      have fin : wpAny (model X.prog X.w) X.A (setFlight (.ref a) X.env.frame) (fun _ s4 => wpAny (model X.prog X.w) X.A (throw (.ref a) : Sem Flow) (SP X pins D) X.xe s4) X.xe { s' with heap := h3 } := by
        rw [hf]
        refine HandSPX.setFlight_upZ fl3 fun h4 hh4 up4 => wpAny_throw (tk _ _ ?_)
        exact ⟨a, B, sI, pins, σ', H', cls, d, rfl, J, nb, (up.trans up3).trans up4, .inr (.inr (by rw [hs]; exact hh4)), na, os, ag, hno rfl⟩
      first
        | exact wpAny_bind (wpAny_pure (wpAny_bind fin))
        | exact wpAny_bind fin
  · cases f with
    | next =>
      obtain ⟨σ', H', J', q⟩ := hsp
      exact wpAny_execs_nil ⟨σ', H', J'.ofTry ok, q⟩
    | brk =>
      obtain ⟨σ', H', J', q⟩ := hsp
      exact ⟨σ', H', J'.ofTry ok, q⟩
    | cont =>
      obtain ⟨σ', H', J', q⟩ := hsp
      exact ⟨σ', H', J'.ofTry ok, q⟩
    | ret u =>
      obtain ⟨v, σ', H', J', r, q⟩ := hsp
      exact ⟨v, σ', H', J'.ofTry ok, r, q⟩
end
end L2
end
section
set_option Elab.async false
set_option maxRecDepth 100000
set_option linter.all false
set_option maxHeartbeats 4000000
namespace PySem.W
open PySem PySem.Spec PySem.Calls PyProof.Rows
section
variable {prog : Program} {w : World} {A : Around} {E : Value → Shared → Prop} {s : Shared} {K : Frag} {x D : Addr} {ox : Obj}
theorem findObj_dataT {C : Addr} {name : Str} {a g : Value} {od : Option Obj} (hc : (clsIn K C).isSome = true) (ha : findIn K (.ref C) name = some (some a)) (hg : specialIn K a "__get__" = some (some g)) (ht : takesIn K a = some true) : findObj K C od name = some (.bind g a) := by
  obtain ⟨cd, hc⟩ := Option.isSome_iff_exists.mp hc
  unfold findObj
  rw [hc, Option.bind_some, ha, Option.bind_some]
  simp [hg, ht]
theorem kin_classT {Q : Option Value → Shared → Prop} (hga : findIn K (.ref D) "__getattribute__" = some (some (.builtin "BaseException.__getattribute__"))) (hgt : findIn K (.ref D) "__getattr__" = some none) (hsub : subIn K (.ref D) (.type "BaseException") = some true)
    (hdct : hasDictIn K D = true) (ha : findIn K (.ref D) "__class__" = some (some (.builtin "object.__class__")))
    (hn : specialIn K (.builtin "object.__class__") "__get__" = some (some (.builtin "getset_descriptor.__get__"))) (htk : takesIn K (.builtin "object.__class__") = some true) (hm : mroIn K D (.type "object") = some true)
    {od : Option Obj} (X : K.In s.heap) (I : InstAt s.heap x ox D od) (h : Q (some (.ref D)) { s with toks := s.toks + 1 }) : wpAny (model prog w) A (getAttr? (.ref x) "__class__") Q E s := by
  have hf : findObj K D od "__class__" = some (.bind (.builtin "getset_descriptor.__get__") (.builtin "object.__class__")) := findObj_dataT (by obtain ⟨cd, hc, _⟩ := any_some hdct; rw [hc]; rfl) ha hn htk
  obtain ⟨hp, g, d, t, os⟩ := s
  have L0 := I.type (M := model prog w)
  have L1 := looks_findIn (M := model prog w) X hga
  have L2 := looks_findIn (M := model prog w) X hgt
  have L3 := looks_find (M := model prog w) X I hf
  have sub : Looks (model prog w) hp (isInstance (.ref x) (.type "BaseException")) true := L0.andThen (looks_subIn X hsub)
  have hx0 : (false && onTheHeap (Value.builtin "BaseException.__getattribute__")) = false := rfl
  have hx2 : (Value.builtin "BaseException.__getattribute__" == Value.builtin "object.__getattribute__") = false := by decide +kernel
  have hx1 : (onTheHeap (Value.ref D) && Value.builtin "BaseException.__getattribute__" == Value.builtin "object.__getattribute__") = false := by rw [hx2]; rfl
  unfold getAttr? getAttrBy? getAttrBy
  refine wpAny_bind (wpAny_mkText (wpAny_bind (wpAny_attempt (wpAny_holding (wpAny_bind (L0.at (wpAny_bind (L1.at ?_))))))))
  show wpAny _ _ (if (onTheHeap (Value.ref D) && Value.builtin "BaseException.__getattribute__" == Value.builtin "object.__getattribute__") = true then _ else _) _ _ _
  rw [hx1, if_neg Bool.false_ne_true]
  unfold getAttrByItsOwn hookBefore
  refine wpAny_bind ?_
  rw [if_pos (show onTheHeap (Value.ref D) = true from rfl)]
  refine L2.at ?_
  refine wpAny_bind (wpAny_attempt (wpAny_holding ?_))
  unfold callGetattribute
  rw [hx0, if_neg Bool.false_ne_true]
  unfold boundAndCalled
  rw [PySem.F.excAttr_ValueError.ga.bind (.ref x)]
  refine wpAny_bind (wpAny_pure ?_)
  show wpAny _ _ (call (.builtin "BaseException.__getattribute__") [.ref x, .str "__class__" t]) _ _ _
  refine wpAny_call (codeAny_call_builtin PySem.F.excAttr_ValueError.ga.plain PySem.F.entry_bexc_ga ?_)
  refine @check_slot (model prog w) _ _ ⟨hp, g, d, t + 1, os⟩ "BaseException.__getattribute__" "BaseException" "__getattribute__" (.ref x) [.str "__class__" t] [] _ (by decide +kernel) (by decide +kernel) sub (PySem.F.args_bexc_ga (.ref x) (.str "__class__" t)) ?_
  unfold Builtin.«object.__getattribute__»
  refine wpAny_bind (wpAny_of_eq (a := ((Value.ref x : Value), [Value.str "__class__" t])) (by first | rfl | (simp only [slotArgs]; rfl)) ?_)
  refine wpAny_bind (wpAny_pure (wpAny_bind (L0.at (wpAny_bind (L3.at ?_)))))
  show wpAny _ _ (holding [Value.builtin "object.__class__"] (call (.builtin "getset_descriptor.__get__") [.builtin "object.__class__", .ref x, .ref D]) >>= ret) _ _ _
  refine wpAny_bind (wpAny_holding (wpAny_call (class_get (s := ⟨hp, g, d, t + 1, os⟩) (ox := ox) (od := od) X I hm ?_)))
  refine wpAny_pure ?_
  show wpAny _ _ (handedOut (.ref D)) _ _ _
  rw [handedOut_of (v := .ref D) rfl]
  first
    | exact wpAny_pure (wpAny_pure h)
    | exact wpAny_pure h
    | exact wpAny_pure (wpAny_bind (wpAny_pure (wpAny_pure h)))
theorem kitx_excT (hga : findIn K (.ref D) "__getattribute__" = some (some (.builtin "BaseException.__getattribute__"))) (hgt : findIn K (.ref D) "__getattr__" = some none) (hsub : subIn K (.ref D) (.type "BaseException") = some true) (hdct : hasDictIn K D = true) (ha : findIn K (.ref D) "__class__" = some (some (.builtin "object.__class__")))
    (hn : specialIn K (.builtin "object.__class__") "__get__" = some (some (.builtin "getset_descriptor.__get__"))) (htk : takesIn K (.builtin "object.__class__") = some true) (hm : mroIn K D (.type "object") = some true) :
    KitX K (.ref x) (.ref D) (fun h => ∃ (ox : Obj) (od : Option Obj), InstAt h x ox D od) where
  ty := fun _ _ _ I => by
    obtain ⟨ox, od, I⟩ := I
    exact I.type
  it := fun _ _ X _ => by
    obtain ⟨cdD, hcD, _⟩ := any_some hdct
    unfold clsIn at hcD
    split at hcD
    · rename_i c' d' cd' sl' ho
      intro A' Q' E' s' k q
      unfold isType loadHead
      exact wpAny_bind (wpAny_loadPart (k _ _ (X _ _ ho)) (wpAny_pure q))
    · cases hcD
  ne := fun h tp dd its n sl X htp => by
    obtain ⟨cdD, hcD, _⟩ := any_some hdct
    refine Bool.eq_false_iff.mpr fun q => ?_
    have e : D = tp := Value.ref.inj (beq_iff_eq.mp q)
    subst e
    unfold clsIn at hcD
    split at hcD
    · rename_i c' d' cd' sl' ho
      have z := (X _ _ ho).symm.trans htp
      cases z
    · cases hcD
  ca := fun X I k => by
    obtain ⟨ox, od, I⟩ := I
    exact kin_classT hga hgt hsub hdct ha hn htk hm X I k
end
end PySem.W
namespace L2
open PySem PySem.Spec PyProof.Rows
section
variable {X : Cx} {pins : List (Addr × Obj)} {σ : St} {H : Hp} {s : Shared}
theorem exT_inst (I : Inv X pins σ H s) {a D : Addr} {d : Option Addr} {fs : List (Str × V)} (e : H a = some (ExT (.ref D) d a)) (hd : ∀ dd, d = some dd → H dd = some (.xd fs)) : ∃ (ox : Obj) (od : Option Obj), PySem.W.InstAt s.heap a ox D od := by
  obtain ⟨oe, vs, he, hz, hv⟩ := exT_at I.hok e
  cases d with
  | none => exact ⟨oe, none, he, hz.1, by unfold PySem.W.notCls; rw [hv] <;> rfl, by rw [hz.2]; trivial⟩
  | some dd =>
    have hx : ObjOk X.prog X.w H s.heap dd (.xd fs) := I.hok dd _ (hd dd rfl)
    obtain ⟨mA, hns, hr⟩ := hx
    obtain ⟨od, ho, hl⟩ := lookIn_ns hns
    exact ⟨oe, some od, he, hz.1, by unfold PySem.W.notCls; rw [hv] <;> rfl, by rw [hz.2]; exact ho⟩
/-- isinstance(e, c), e a kept error -/
def rIsT (K : PySem.W.Frag) : List V → Hp → VK → Prop := fun xs H Q => ∃ (a D dd : Addr) (fs : List (Str × V)) (c : V) (cv : Value) (b : Bool), xs = [.ref a, c] ∧ H a = some (ExT (.ref D) (some dd) a) ∧ H dd = some (.xd fs) ∧ ExcC K D ∧ (∀ u, RelV c u → u = cv) ∧ PySem.W.kitOne K (.ref D) cv = some b ∧ Q (.bl b) H
theorem call_isT {X : Cx} : CallR X (.builtin "isinstance") (rIsT X.K) := by
  intro pins s σ H xs us Q I r h
  obtain ⟨a, D, dd, fs, c, cv, b, rfl, e, ed, C, hcv, hb, q⟩ := h
  cases r with
  | cons rx rr =>
    cases rr with
    | cons rt rr =>
      cases rr
      cases rx
      have ec := hcv _ rt
      subst ec
      exact PySem.W.kia_one (PySem.W.kitx_excT C.hg C.hk C.hs C.hd C.ha C.hn C.ht C.hm) I.kIn (exT_inst I e (fun d' z => by cases z; exact ed)) hb (fun z => nomatch z) fun tk => ⟨.bl b, H, I.kept (t' := tk) fun _ _ z => z, rfl, q⟩
/-- isinstance(e, (c, ..)), e a kept error -/
def rIsTT (K : PySem.W.Frag) : List V → Hp → VK → Prop := fun xs H Q => ∃ (a D dd t : Addr) (fs : List (Str × V)) (cs : List Addr) (b : Bool), xs = [.ref a, .ref t] ∧ H a = some (ExT (.ref D) (some dd) a) ∧ H dd = some (.xd fs) ∧ ExcC K D ∧ H t = some (.tup (cs.map V.ref)) ∧ PySem.W.kitAny K (.ref D) (cs.map Value.ref) = some b ∧ Q (.bl b) H
theorem call_isTT {X : Cx} : CallR X (.builtin "isinstance") (rIsTT X.K) := by
  intro pins s σ H xs us Q I r h
  obtain ⟨a, D, dd, t, fs, cs, b, rfl, e, ed, C, ht, hb, q⟩ := h
  cases r with
  | cons rx rr =>
    cases rr with
    | cons rt rr =>
      cases rr
      cases rx
      cases rt
      obtain ⟨its, rv, ⟨ot, ho, hc, n, hd⟩, _⟩ := I.tuple (SqT.of (K := X.K) ht)
      have ei := K2.vals_refs rv
      subst ei
      obtain ⟨c0, d0, dt0, sl0⟩ := ot
      dsimp only at hc hd
      subst hc
      subst hd
      exact PySem.W.kia_tup (PySem.W.kitx_excT C.hg C.hk C.hs C.hd C.ha C.hn C.ht C.hm) I.kIn (exT_inst I e (fun d' z => by cases z; exact ed)) ho hb (fun z => nomatch z) fun tk => ⟨.bl b, H, I.kept (t' := tk) fun _ _ z => z, rfl, q⟩
/-- e.f, e a kept error -/
def tXt (K : PySem.W.Frag) (f : Str) (te : TE) : TE := fun σ H Q => te σ H fun x H1 => ∃ (a C dd : Addr) (fs : List (Str × V)) (v : V), x = .ref a ∧ H1 a = some (ExT (.ref C) (some dd) a) ∧ H1 dd = some (.xd fs) ∧ XfC K C ∧ PySem.W.findIn K (.ref C) f = some none ∧ fs.lookup f = some v ∧ Q v H1
theorem pe_xt {X : Cx} {e : Expr} {te : TE} {pos : Pos} {n : Str} (he : PE X e te) (hb : attributeBase e n X.env (eval e X.env) = eval e X.env := by rfl) :
    PE X (.Attribute e n pos) (tXt X.K n te) := by
  refine ⟨fun pins s σ H Q I h => ?_⟩
  refine attr_of hb (thn (he.run pins s σ H _ I h) fun u s1 hh => ?_)
  obtain ⟨x, H1, I1, rx, a, C, dd, fs, v, ex, e, ea, T, hno, l, q⟩ := hh
  subst ex
  obtain rfl : u = Value.ref a := rx
  obtain ⟨oe, vs, ha, hz, hd⟩ := exT_at I1.hok e
  have hx : ObjOk X.prog X.w H1 s1.heap dd (.xd fs) := I1.hok dd _ ea
  obtain ⟨mA, hns, hr⟩ := hx
  obtain ⟨od, ho, hl⟩ := lookIn_ns hns
  obtain ⟨u, hu, ru⟩ := RelO.some_of (v := v) (o := mA n) (by rw [← l]; exact hr n)
  have J : PySem.W.InstAt s1.heap a oe C (some od) := ⟨ha, hz.1, by unfold PySem.W.notCls; rw [hd] <;> rfl, by rw [hz.2]; exact ho⟩
  exact HandSPX.exc_get I1.kIn J T.ga T.gg T.exC (PySem.W.findObj_own T.hdC hno rfl (by rw [hl, hu])) (handed_of ru) ⟨v, H1, I1.tok _, ru, q⟩
end
end L2
end
section
set_option Elab.async false
set_option maxRecDepth 100000
set_option linter.all false
namespace K2
open PySem L2 LamX
abbrev sHeard : Stmt := top 37
abbrev nHeard : List Str := ["_law_ask", "_law_caught", "error", "_law_marks"]
theorem ps_dead {X : Cx} {st : Stmt} : PS X st (fun _ _ _ => False) := ⟨fun _ _ _ _ _ _ h => h.elim⟩
theorem pe_dead {X : Cx} {e : Expr} : PE X e (fun _ _ _ => False) := ⟨fun _ _ _ _ _ _ h => h.elim⟩
section
variable {X : Cx}
def rCntB (K : PySem.W.Frag) : V → List V → Hp → VK → Prop := fun x xs H Q => ∃ (p : Addr) (ys : List V) (y : V), x = .ref p ∧ xs = [y] ∧ SqL K H p ys ∧ flatV y = true ∧ ys.all flatV = true ∧ Q (.int (ys.countP fun z => eqV z y : Nat)) H
theorem countP_U {x : V} : ∀ {ys : List V} {us : List Value}, Vals ys us → ys.all flatV = true → us.countP (eqU x) = ys.countP fun z => eqV z x
  | _, _, .nil, _ => rfl
  | y :: ys, u :: us, .cons r t, f => by
    rw [List.all_cons, Bool.and_eq_true] at f
    rw [List.countP_cons, List.countP_cons, countP_U t f.2, eqU_of r f.1]
theorem mt_lcountB : MtR X "list.count" (rCntB X.K) := by
  intro pins s σ H x xs v us Q I rx rxs h
  obtain ⟨p, ys, y, rfl, rfl, hs, fy, fys, q⟩ := h
  cases rx
  obtain ⟨u, rfl, ry⟩ := rxs.one
  obtain ⟨its, rv, ⟨⟨cls, dd, data, sl⟩, n, ho, hc, hdn, hd⟩, hlen⟩ := I.list hs
  simp only at hc hd
  subst hc hd
  refine call_meets PySem.F.slot_list_count ⟨_, ho, rfl⟩ PySem.F.entry_list_count (PySem.F.args_list_count_2 _ _)
    (SeqAt.list_countAt p its.toArray n dd sl u (eqU y)) ⟨ho, fun u' hu' => mem_eqAt ry fy rv fys u' (by simpa using hu'), ?_⟩
  have ec : its.toArray.toList.countP (eqU y) = ys.countP fun z => eqV z y := countP_U rv fys
  refine ⟨.int (ys.countP fun z => eqV z y : Nat), H, I.tok _, ⟨s.toks, ?_⟩, q⟩
  show Value.int ((its.toArray.toList.countP (eqU y) : Nat) : Int) s.toks = _
  rw [ec]
end
abbrev errs : List Str := ["LeaveError", "NoClass", "NoFunction", "NoProgram", "NoName", "NoCase", "TooMany", "NoText", "NoAct", "NoRecord", "Barred", "Unlike", "NoRow"]
/-- D is the class TooMany -/
structure Many (K : PySem.W.Frag) (cl : Str → Addr) (D : Addr) : Prop where
  ex : PySem.W.exmOne K (.ref D) (.ref (cl "LeaveError")) = some true
  isC : ExcC K D
  xf : XfC K D
  fw : PySem.W.findIn K (.ref D) "what" = some none
  fm : PySem.W.findIn K (.ref D) "most" = some none
  k1 : PySem.W.kitOne K (.ref D) (.ref (cl "NoClass")) = some false
  k2 : PySem.W.kitOne K (.ref D) (.ref (cl "NoFunction")) = some false
  k3 : PySem.W.kitOne K (.ref D) (.ref (cl "NoProgram")) = some false
  k4 : PySem.W.kitOne K (.ref D) (.ref (cl "NoName")) = some false
  k5 : PySem.W.kitOne K (.ref D) (.ref (cl "NoCase")) = some false
  k6 : PySem.W.kitOne K (.ref D) (.ref (cl "TooMany")) = some true
  kt : PySem.W.kitAny K (.ref D) ([cl "NoText", cl "NoAct", cl "NoRecord", cl "Barred", cl "Unlike", cl "NoRow"].map Value.ref) = some false
  kv : PySem.W.kitOne K (.ref D) (.type "ValueError") = some true
def HM (K : PySem.W.Frag) (cl : Str → Addr) (Q : VK) : XK := fun cls d H' => ∃ (D dd : Addr) (fs : List (Str × V)) (v1 v2 : V), cls = .ref D ∧ d = some dd ∧ H' dd = some (.xd fs) ∧ Many K cl D ∧ fs.lookup ("what" : Str) = some v1 ∧ fs.lookup ("most" : Str) = some v2 ∧
  ∀ (t : Addr) (H'' : Hp), Same H' H'' → H'' t = some (.tup [.str "MANY", v1, v2]) → Q (.ref t) H''
def TTh (K : PySem.W.Frag) (cl : Str → Addr) : (XK → Hp → VK → Prop) → Hp → VK → Prop := fun tl H Q => tl (HM K cl Q) H fun v H' => [v].length ≤ sizeLine ∧ ∀ p, H' p = none → Q (.ref p) (upd H' p (.lst [v]))
theorem scHeard : FnScope nHeard ["_law_ask"] (defScope sHeard) := ⟨rfl, rfl, rfl, by decide +kernel, rfl, by decide +kernel, by decide +kernel⟩
theorem heard_gives {X : Cx} {g : Addr} {cdg : Value} {q : Str} {cl : Str → Addr} (T : Bi X.mg) (tVE : X.mg "ValueError" = none) (hcl : ∀ x ∈ errs, X.mg x = some (.ref (cl x))) :
    GivesTo X nHeard "_law_heard" (defScope sHeard) g cdg (defBody sHeard) "_law_ask" q (TTh X.K cl) := by
  intro f c' s H Q tl act hc h
  have hge : Gl (cxOf C8.CX0 X.prog X.w X.K X.mg X.base nHeard "_law_heard" (defScope sHeard) g cdg X.A X.stack s H C8.E0).nox "LeaveError" := by rfl
  refine ⟨_, (pss_cons (ps_set (i := 1) scHeard.nd rfl (Or.inl rfl) pe_non)
    (pss_cons (ps_try_asT (X := (cxOf C8.CX0 X.prog X.w X.K X.mg X.base nHeard "_law_heard" (defScope sHeard) g cdg X.A X.stack s H C8.E0).nox) (i := 2) (c := .ref (cl "LeaveError"))
      (tb := fun W D σ H => ∃ Ech : XK, (∀ cls d σ' H', Ech cls d H' → W cls d σ' H') ∧ σ[0]? = some (some (.ref f)) ∧ H c' = some (CodeO c' q) ∧ tl Ech H fun v H1 => [v].length ≤ sizeLine ∧ ∀ p, H1 p = none → D.rt (.ref p) (upd H1 p (.lst [v])))
      rfl rfl scHeard.nd rfl (by rfl) ⟨hge, by decide +kernel, .inl (hcl "LeaveError" (by decide +kernel))⟩ LamX.takes0 (fun W pn xe tk _ => ?_) (fun a cls d pn => pss_one (ps_set (i := 1) scHeard.nd rfl (Or.inl rfl) (pv 2))))
    (pss_cons (ps_set (i := 3) scHeard.nd rfl (Or.inl rfl) (pe_lst (pa_cons (pe_callB call_isT (by rfl) T.isinstance (by decide +kernel) (pa_cons (pv 1) (pa_cons (pe_glob (v := .ref (cl "NoClass")) (by rfl) (hcl "NoClass" (by decide +kernel)) rfl) pa_nil))) (pa_cons (pe_callB call_isT (by rfl) T.isinstance (by decide +kernel) (pa_cons (pv 1) (pa_cons (pe_glob (v := .ref (cl "NoFunction")) (by rfl) (hcl "NoFunction" (by decide +kernel)) rfl) pa_nil))) (pa_cons (pe_callB call_isT (by rfl) T.isinstance (by decide +kernel) (pa_cons (pv 1) (pa_cons (pe_glob (v := .ref (cl "NoProgram")) (by rfl) (hcl "NoProgram" (by decide +kernel)) rfl) pa_nil))) pa_nil)))))
    (pss_cons (ps_set (i := 3) scHeard.nd rfl (Or.inl rfl) (pe_op op_cat (pv 3) (pe_lst (pa_cons (pe_callB call_isT (by rfl) T.isinstance (by decide +kernel) (pa_cons (pv 1) (pa_cons (pe_glob (v := .ref (cl "NoName")) (by rfl) (hcl "NoName" (by decide +kernel)) rfl) pa_nil))) (pa_cons (pe_callB call_isT (by rfl) T.isinstance (by decide +kernel) (pa_cons (pv 1) (pa_cons (pe_glob (v := .ref (cl "NoCase")) (by rfl) (hcl "NoCase" (by decide +kernel)) rfl) pa_nil))) (pa_cons (pe_callB call_isT (by rfl) T.isinstance (by decide +kernel) (pa_cons (pv 1) (pa_cons (pe_glob (v := .ref (cl "TooMany")) (by rfl) (hcl "TooMany" (by decide +kernel)) rfl) pa_nil))) pa_nil))))))
    (pss_cons (ps_expr (pe_bm PySem.F.plainAttrs_list PySem.F.slot_list_append PySem.F.type_list_append mt_append (pv 3) (pa_cons (pe_callB call_isTT (by rfl) T.isinstance (by decide +kernel) (pa_cons (pv 1) (pa_cons (pe_tup (pa_cons (pe_glob (v := .ref (cl "NoText")) (by rfl) (hcl "NoText" (by decide +kernel)) rfl) (pa_cons (pe_glob (v := .ref (cl "NoAct")) (by rfl) (hcl "NoAct" (by decide +kernel)) rfl) (pa_cons (pe_glob (v := .ref (cl "NoRecord")) (by rfl) (hcl "NoRecord" (by decide +kernel)) rfl) (pa_cons (pe_glob (v := .ref (cl "Barred")) (by rfl) (hcl "Barred" (by decide +kernel)) rfl) (pa_cons (pe_glob (v := .ref (cl "Unlike")) (by rfl) (hcl "Unlike" (by decide +kernel)) rfl) (pa_cons (pe_glob (v := .ref (cl "NoRow")) (by rfl) (hcl "NoRow" (by decide +kernel)) rfl) pa_nil))))))) pa_nil))) pa_nil)))
    (pss_cons (ps_if (PW.pt (pw_or (pt_cmpR op_ne (pe_bm PySem.F.plainAttrs_list PySem.F.slot_list_count PySem.F.type_list_count mt_lcountB (pv 3) (pa_cons pe_bl pa_nil)) pe_int (nomark _))
        (pw_or (pt_val (pe_ix ix_list (pv 3) pe_int (fun _ _ => rfl))) (pw_or1 (pt_not (pt_val (pe_callB call_isT (by rfl) T.isinstance (by decide +kernel) (pa_cons (pv 1) (pa_cons (pe_bltn (v := .ty "ValueError") (by rfl) tVE (by decide +kernel) rfl) pa_nil))))))))) (pss_one ps_dead) pss_nil)
    (pss_cons (ps_if (pt_cmpR op_in_seq pe_bl (pe_slice sl_list (pv 3) po_none (po_some pe_int)) rfl) (pss_one ps_dead) pss_nil)
    (pss_cons (ps_if (pt_val (pe_ix ix_list (pv 3) pe_int (fun _ _ => rfl))) (pss_one ps_dead) pss_nil)
    (pss_one (ps_ret (pe_ifExp (pt_val (pe_ix ix_list (pv 3) pe_int (fun _ _ => rfl))) pe_dead (pe_tup (pa_cons pe_str (pa_cons (pe_xt (pv 1)) (pa_cons (pe_xt (pv 1)) pa_nil))))))))))))))), ?_⟩
  · refine ⟨fun pins s' σ H' D I h' => ?_⟩
    obtain ⟨Ech, hW, h1, h2, h3⟩ := h'
    refine (pss_one (ps_ret (pe_lst (pa_cons (act W pn xe Ech _ _ tk hW) pa_nil)))).run pins s' σ H' D I ?_
    exact ⟨h1, h2, h3⟩
  · refine ⟨HM X.K cl Q, fun cls d σ' H' hm hlen => ?_, rfl, hc, h⟩
    obtain ⟨D, dd, fs, v1, v2, rfl, rfl, hx, M, l1, l2, k⟩ := hm
    refine ⟨true, M.ex, fun _ a na => ?_, fun z => nomatch z⟩
    obtain ⟨s0, s1, s2, s3, rfl⟩ : ∃ s0 s1 s2 s3, σ' = [s0, s1, s2, s3] := by
      match σ', hlen with
      | [s0, s1, s2, s3], _ => exact ⟨s0, s1, s2, s3, rfl⟩
    have sE : Same H' (upd H' a (ExT (.ref D) (some dd) a)) := (Same.refl H').put na
    have ha : ∀ {H1 : Hp}, Same (upd H' a (ExT (.ref D) (some dd) a)) H1 → H1 a = some (ExT (.ref D) (some dd) a) := fun s => s _ _ upd_same
    have hd : ∀ {H1 : Hp}, Same (upd H' a (ExT (.ref D) (some dd) a)) H1 → H1 dd = some (.xd fs) := fun s => s _ _ (sE _ _ hx)
    generalize hHe : upd H' a (ExT (.ref D) (some dd) a) = He at *
    have r0 : Same He He := Same.refl He
    refine ⟨_, rfl, _, rfl, a, D, dd, fs, _, _, _, rfl, ha r0, hd r0, M.isC, fun _ r => r, M.k1, _, rfl, a, D, dd, fs, _, _, _, rfl, ha r0, hd r0, M.isC, fun _ r => r, M.k2, _, rfl, a, D, dd, fs, _, _, _, rfl, ha r0, hd r0, M.isC, fun _ r => r, M.k3, (by show 3 ≤ sizeLine; decide), fun p1 hp1 => ?_⟩
    have r1 := r0.put (o := .lst [.bl false, .bl false, .bl false]) hp1
    refine ⟨_, rfl, _, rfl, a, D, dd, fs, _, _, _, rfl, ha r1, hd r1, M.isC, fun _ r => r, M.k4, _, rfl, a, D, dd, fs, _, _, _, rfl, ha r1, hd r1, M.isC, fun _ r => r, M.k5, _, rfl, a, D, dd, fs, _, _, _, rfl, ha r1, hd r1, M.isC, fun _ r => r, M.k6, (by show 3 ≤ sizeLine; decide), fun p2 hp2 => ?_⟩
    have r2 := r1.put (o := .lst [.bl false, .bl false, .bl true]) (r1.free hp2)
    refine ⟨p1, p2, _, _, rfl, rfl, by rw [upd_ne (ne_of_none upd_same hp2), upd_same], upd_same, (by show 6 ≤ sizeLine; decide), fun p3 hp3 => ?_⟩
    have r3 := r2.put (o := .lst ([.bl false, .bl false, .bl false] ++ [.bl false, .bl false, .bl true])) (r2.free hp3)
    refine ⟨_, rfl, .inl ⟨rfl, _, SqL.of upd_same⟩, ?_⟩
    generalize hH3 : upd (upd (upd He p1 (.lst [.bl false, .bl false, .bl false])) p2 (.lst [.bl false, .bl false, .bl true])) p3 (.lst ([.bl false, .bl false, .bl false] ++ [.bl false, .bl false, .bl true])) = H3 at *
    have e3 : H3 p3 = some (.lst [.bl false, .bl false, .bl false, .bl false, .bl false, .bl true]) := by rw [← hH3, upd_same]; rfl
    refine ⟨_, rfl, (by show 6 ≤ sizeLine; decide), fun t ht => ?_⟩
    have r4 := r3.put (o := .tup [.ref (cl "NoText"), .ref (cl "NoAct"), .ref (cl "NoRecord"), .ref (cl "Barred"), .ref (cl "Unlike"), .ref (cl "NoRow")]) (r3.free ht)
    refine ⟨a, D, dd, t, fs, _, _, rfl, ha r4, hd r4, M.isC, upd_same, M.kt, p3, _, _, rfl, rfl, by rw [upd_ne (ne_of_none e3 ht)]; exact e3, (by show 6 < sizeLine; decide), ?_⟩
    have r5 : Same He (upd (upd H3 t (.tup [.ref (cl "NoText"), .ref (cl "NoAct"), .ref (cl "NoRecord"), .ref (cl "Barred"), .ref (cl "Unlike"), .ref (cl "NoRow")])) p3 (.lst ([.bl false, .bl false, .bl false, .bl false, .bl false, .bl true] ++ [.bl false]))) := fun b o e => by
      have n3 : b ≠ p3 := ne_of_none e (r2.free hp3)
      rw [upd_ne n3]
      exact r4 b o e
    generalize hH5 : upd (upd H3 t (.tup [.ref (cl "NoText"), .ref (cl "NoAct"), .ref (cl "NoRecord"), .ref (cl "Barred"), .ref (cl "Unlike"), .ref (cl "NoRow")])) p3 (.lst ([.bl false, .bl false, .bl false, .bl false, .bl false, .bl true] ++ [.bl false])) = H5 at *
    have e5 : H5 p3 = some (.lst [.bl false, .bl false, .bl false, .bl false, .bl false, .bl true, .bl false]) := by rw [← hH5, upd_same]; rfl
    refine ⟨_, rfl, .inl ⟨rfl, _, SqL.of e5⟩, p3, _, _, rfl, rfl, SqL.of e5, rfl, rfl, rfl, _, rfl, ite2 (fun z => absurd z (by decide)) fun _ => ?_⟩
    refine ⟨_, rfl, p3, _, 6, _, rfl, rfl, SqL.of e5, rfl, _, rfl, ite2 (fun z => absurd z (by decide)) fun _ => ?_⟩
    refine ⟨_, rfl, a, D, dd, fs, _, _, _, rfl, ha r5, hd r5, M.isC, fun _ r => r, M.kv, _, rfl, ite2 (fun z => absurd z (by decide)) fun _ => ?_⟩
    have ec : cutV [.bl false, .bl false, .bl false, .bl false, .bl false, .bl true, .bl false] none (some 3) = [.bl false, .bl false, .bl false] := by rfl
    refine ⟨_, rfl, ?_⟩
    refine ⟨3, rfl, p3, _, rfl, SqL.of e5, fun p4 hp4 => ?_⟩
    rw [ec]
    have r6 := r5.put (o := .lst [.bl false, .bl false, .bl false]) (r5.free hp4)
    have e6 : (upd H5 p4 (.lst [.bl false, .bl false, .bl false])) p3 = some (.lst [.bl false, .bl false, .bl false, .bl false, .bl false, .bl true, .bl false]) := by rw [upd_ne (ne_of_none e5 hp4)]; exact e5
    refine ⟨p4, _, rfl, .inl (SqL.of upd_same), rfl, rfl, _, rfl, ite2 (fun z => absurd z (by decide)) fun _ => ?_⟩
    refine ⟨_, rfl, p3, _, 3, _, rfl, rfl, SqL.of e6, rfl, _, rfl, ite2 (fun z => absurd z (by decide)) fun _ => ?_⟩
    refine ⟨_, rfl, p3, _, 4, _, rfl, rfl, SqL.of e6, rfl, _, rfl, ite2 (fun z => absurd z (by decide)) fun _ => ?_⟩
    refine ⟨_, rfl, a, D, dd, fs, v1, rfl, ha r6, hd r6, M.xf, M.fw, l1, _, rfl, a, D, dd, fs, v2, rfl, ha r6, hd r6, M.xf, M.fm, l2, (by show 3 ≤ sizeLine; decide), fun t2 ht2 => ?_⟩
    exact k t2 _ (sE.trans (r6.put (r6.free ht2))) upd_same
end K2
end
section
set_option Elab.async false
set_option maxRecDepth 100000
set_option linter.all false
/-! _law_heard for an error of NoClass: ('CLASS', reason, place) -/
namespace K2
open PySem L2 LamX
/-- D is the class NoClass -/
structure OfClass (K : PySem.W.Frag) (cl : Str → Addr) (D : Addr) : Prop where
  ex : PySem.W.exmOne K (.ref D) (.ref (cl "LeaveError")) = some true
  isC : ExcC K D
  xf : XfC K D
  fw : PySem.W.findIn K (.ref D) "reason" = some none
  fm : PySem.W.findIn K (.ref D) "place" = some none
  k1 : PySem.W.kitOne K (.ref D) (.ref (cl "NoClass")) = some true
  k2 : PySem.W.kitOne K (.ref D) (.ref (cl "NoFunction")) = some false
  k3 : PySem.W.kitOne K (.ref D) (.ref (cl "NoProgram")) = some false
  k4 : PySem.W.kitOne K (.ref D) (.ref (cl "NoName")) = some false
  k5 : PySem.W.kitOne K (.ref D) (.ref (cl "NoCase")) = some false
  k6 : PySem.W.kitOne K (.ref D) (.ref (cl "TooMany")) = some false
  kt : PySem.W.kitAny K (.ref D) ([cl "NoText", cl "NoAct", cl "NoRecord", cl "Barred", cl "Unlike", cl "NoRow"].map Value.ref) = some false
  kv : PySem.W.kitOne K (.ref D) (.type "ValueError") = some true
def HMC (K : PySem.W.Frag) (cl : Str → Addr) (Q : VK) : XK := fun cls d H' => ∃ (D dd : Addr) (fs : List (Str × V)) (v1 v2 : V), cls = .ref D ∧ d = some dd ∧ H' dd = some (.xd fs) ∧ OfClass K cl D ∧ fs.lookup ("reason" : Str) = some v1 ∧ fs.lookup ("place" : Str) = some v2 ∧
  ∀ (t : Addr) (H'' : Hp), Same H' H'' → H'' t = some (.tup [.str "CLASS", v1, v2]) → Q (.ref t) H''
def TThC (K : PySem.W.Frag) (cl : Str → Addr) : (XK → Hp → VK → Prop) → Hp → VK → Prop := fun tl H Q => tl (HMC K cl Q) H fun v H' => [v].length ≤ sizeLine ∧ ∀ p, H' p = none → Q (.ref p) (upd H' p (.lst [v]))
theorem heard_givesC {X : Cx} {g : Addr} {cdg : Value} {q : Str} {cl : Str → Addr} (T : Bi X.mg) (tVE : X.mg "ValueError" = none) (hcl : ∀ x ∈ errs, X.mg x = some (.ref (cl x))) :
    GivesTo X nHeard "_law_heard" (defScope sHeard) g cdg (defBody sHeard) "_law_ask" q (TThC X.K cl) := by
  intro f c' s H Q tl act hc h
  have hge : Gl (cxOf C8.CX0 X.prog X.w X.K X.mg X.base nHeard "_law_heard" (defScope sHeard) g cdg X.A X.stack s H C8.E0).nox "LeaveError" := by rfl
  refine ⟨_, (pss_cons (ps_set (i := 1) scHeard.nd rfl (Or.inl rfl) pe_non)
    (pss_cons (ps_try_asT (X := (cxOf C8.CX0 X.prog X.w X.K X.mg X.base nHeard "_law_heard" (defScope sHeard) g cdg X.A X.stack s H C8.E0).nox) (i := 2) (c := .ref (cl "LeaveError"))
      (tb := fun W D σ H => ∃ Ech : XK, (∀ cls d σ' H', Ech cls d H' → W cls d σ' H') ∧ σ[0]? = some (some (.ref f)) ∧ H c' = some (CodeO c' q) ∧ tl Ech H fun v H1 => [v].length ≤ sizeLine ∧ ∀ p, H1 p = none → D.rt (.ref p) (upd H1 p (.lst [v])))
      rfl rfl scHeard.nd rfl (by rfl) ⟨hge, by decide +kernel, .inl (hcl "LeaveError" (by decide +kernel))⟩ LamX.takes0 (fun W pn xe tk _ => ?_) (fun a cls d pn => pss_one (ps_set (i := 1) scHeard.nd rfl (Or.inl rfl) (pv 2))))
    (pss_cons (ps_set (i := 3) scHeard.nd rfl (Or.inl rfl) (pe_lst (pa_cons (pe_callB call_isT (by rfl) T.isinstance (by decide +kernel) (pa_cons (pv 1) (pa_cons (pe_glob (v := .ref (cl "NoClass")) (by rfl) (hcl "NoClass" (by decide +kernel)) rfl) pa_nil))) (pa_cons (pe_callB call_isT (by rfl) T.isinstance (by decide +kernel) (pa_cons (pv 1) (pa_cons (pe_glob (v := .ref (cl "NoFunction")) (by rfl) (hcl "NoFunction" (by decide +kernel)) rfl) pa_nil))) (pa_cons (pe_callB call_isT (by rfl) T.isinstance (by decide +kernel) (pa_cons (pv 1) (pa_cons (pe_glob (v := .ref (cl "NoProgram")) (by rfl) (hcl "NoProgram" (by decide +kernel)) rfl) pa_nil))) pa_nil)))))
    (pss_cons (ps_set (i := 3) scHeard.nd rfl (Or.inl rfl) (pe_op op_cat (pv 3) (pe_lst (pa_cons (pe_callB call_isT (by rfl) T.isinstance (by decide +kernel) (pa_cons (pv 1) (pa_cons (pe_glob (v := .ref (cl "NoName")) (by rfl) (hcl "NoName" (by decide +kernel)) rfl) pa_nil))) (pa_cons (pe_callB call_isT (by rfl) T.isinstance (by decide +kernel) (pa_cons (pv 1) (pa_cons (pe_glob (v := .ref (cl "NoCase")) (by rfl) (hcl "NoCase" (by decide +kernel)) rfl) pa_nil))) (pa_cons (pe_callB call_isT (by rfl) T.isinstance (by decide +kernel) (pa_cons (pv 1) (pa_cons (pe_glob (v := .ref (cl "TooMany")) (by rfl) (hcl "TooMany" (by decide +kernel)) rfl) pa_nil))) pa_nil))))))
    (pss_cons (ps_expr (pe_bm PySem.F.plainAttrs_list PySem.F.slot_list_append PySem.F.type_list_append mt_append (pv 3) (pa_cons (pe_callB call_isTT (by rfl) T.isinstance (by decide +kernel) (pa_cons (pv 1) (pa_cons (pe_tup (pa_cons (pe_glob (v := .ref (cl "NoText")) (by rfl) (hcl "NoText" (by decide +kernel)) rfl) (pa_cons (pe_glob (v := .ref (cl "NoAct")) (by rfl) (hcl "NoAct" (by decide +kernel)) rfl) (pa_cons (pe_glob (v := .ref (cl "NoRecord")) (by rfl) (hcl "NoRecord" (by decide +kernel)) rfl) (pa_cons (pe_glob (v := .ref (cl "Barred")) (by rfl) (hcl "Barred" (by decide +kernel)) rfl) (pa_cons (pe_glob (v := .ref (cl "Unlike")) (by rfl) (hcl "Unlike" (by decide +kernel)) rfl) (pa_cons (pe_glob (v := .ref (cl "NoRow")) (by rfl) (hcl "NoRow" (by decide +kernel)) rfl) pa_nil))))))) pa_nil))) pa_nil)))
    (pss_cons (ps_if (PW.pt (pw_or (pt_cmpR op_ne (pe_bm PySem.F.plainAttrs_list PySem.F.slot_list_count PySem.F.type_list_count mt_lcountB (pv 3) (pa_cons pe_bl pa_nil)) pe_int (nomark _))
        (pw_or (pt_val (pe_ix ix_list (pv 3) pe_int (fun _ _ => rfl))) (pw_or1 (pt_not (pt_val (pe_callB call_isT (by rfl) T.isinstance (by decide +kernel) (pa_cons (pv 1) (pa_cons (pe_bltn (v := .ty "ValueError") (by rfl) tVE (by decide +kernel) rfl) pa_nil))))))))) (pss_one ps_dead) pss_nil)
    (pss_cons (ps_if (pt_cmpR op_in_seq pe_bl (pe_slice sl_list (pv 3) po_none (po_some pe_int)) rfl)
      (pss_one (ps_ret (pe_tup (pa_cons (pe_ix ix_list (pe_lst (pa_cons pe_str (pa_cons pe_str (pa_cons pe_str pa_nil)))) (pe_bm PySem.F.plainAttrs_list PySem.F.slot_list_index PySem.F.type_list_index mt_index (pv 3) (pa_cons pe_bl pa_nil)) (fun _ _ => rfl)) (pa_cons (pe_xt (pv 1)) (pa_cons (pe_xt (pv 1)) pa_nil)))))) pss_nil)
    (pss_cons ps_dead (pss_one ps_dead))))))))), ?_⟩
  · refine ⟨fun pins s' σ H' D I h' => ?_⟩
    obtain ⟨Ech, hW, h1, h2, h3⟩ := h'
    refine (pss_one (ps_ret (pe_lst (pa_cons (act W pn xe Ech _ _ tk hW) pa_nil)))).run pins s' σ H' D I ?_
    exact ⟨h1, h2, h3⟩
  · refine ⟨HMC X.K cl Q, fun cls d σ' H' hm hlen => ?_, rfl, hc, h⟩
    obtain ⟨D, dd, fs, v1, v2, rfl, rfl, hx, M, l1, l2, k⟩ := hm
    refine ⟨true, M.ex, fun _ a na => ?_, fun z => nomatch z⟩
    obtain ⟨s0, s1, s2, s3, rfl⟩ : ∃ s0 s1 s2 s3, σ' = [s0, s1, s2, s3] := by
      match σ', hlen with
      | [s0, s1, s2, s3], _ => exact ⟨s0, s1, s2, s3, rfl⟩
    have sE : Same H' (upd H' a (ExT (.ref D) (some dd) a)) := (Same.refl H').put na
    have ha : ∀ {H1 : Hp}, Same (upd H' a (ExT (.ref D) (some dd) a)) H1 → H1 a = some (ExT (.ref D) (some dd) a) := fun s => s _ _ upd_same
    have hd : ∀ {H1 : Hp}, Same (upd H' a (ExT (.ref D) (some dd) a)) H1 → H1 dd = some (.xd fs) := fun s => s _ _ (sE _ _ hx)
    generalize hHe : upd H' a (ExT (.ref D) (some dd) a) = He at *
    have r0 : Same He He := Same.refl He
    refine ⟨_, rfl, _, rfl, a, D, dd, fs, _, _, _, rfl, ha r0, hd r0, M.isC, fun _ r => r, M.k1, _, rfl, a, D, dd, fs, _, _, _, rfl, ha r0, hd r0, M.isC, fun _ r => r, M.k2, _, rfl, a, D, dd, fs, _, _, _, rfl, ha r0, hd r0, M.isC, fun _ r => r, M.k3, (by show 3 ≤ sizeLine; decide), fun p1 hp1 => ?_⟩
    have r1 := r0.put (o := .lst [.bl true, .bl false, .bl false]) hp1
    refine ⟨_, rfl, _, rfl, a, D, dd, fs, _, _, _, rfl, ha r1, hd r1, M.isC, fun _ r => r, M.k4, _, rfl, a, D, dd, fs, _, _, _, rfl, ha r1, hd r1, M.isC, fun _ r => r, M.k5, _, rfl, a, D, dd, fs, _, _, _, rfl, ha r1, hd r1, M.isC, fun _ r => r, M.k6, (by show 3 ≤ sizeLine; decide), fun p2 hp2 => ?_⟩
    have r2 := r1.put (o := .lst [.bl false, .bl false, .bl false]) (r1.free hp2)
    refine ⟨p1, p2, _, _, rfl, rfl, by rw [upd_ne (ne_of_none upd_same hp2), upd_same], upd_same, (by show 6 ≤ sizeLine; decide), fun p3 hp3 => ?_⟩
    have r3 := r2.put (o := .lst ([.bl true, .bl false, .bl false] ++ [.bl false, .bl false, .bl false])) (r2.free hp3)
    refine ⟨_, rfl, .inl ⟨rfl, _, SqL.of upd_same⟩, ?_⟩
    generalize hH3 : upd (upd (upd He p1 (.lst [.bl true, .bl false, .bl false])) p2 (.lst [.bl false, .bl false, .bl false])) p3 (.lst ([.bl true, .bl false, .bl false] ++ [.bl false, .bl false, .bl false])) = H3 at *
    have e3 : H3 p3 = some (.lst [.bl true, .bl false, .bl false, .bl false, .bl false, .bl false]) := by rw [← hH3, upd_same]; rfl
    refine ⟨_, rfl, (by show 6 ≤ sizeLine; decide), fun t ht => ?_⟩
    have r4 := r3.put (o := .tup [.ref (cl "NoText"), .ref (cl "NoAct"), .ref (cl "NoRecord"), .ref (cl "Barred"), .ref (cl "Unlike"), .ref (cl "NoRow")]) (r3.free ht)
    refine ⟨a, D, dd, t, fs, _, _, rfl, ha r4, hd r4, M.isC, upd_same, M.kt, p3, _, _, rfl, rfl, by rw [upd_ne (ne_of_none e3 ht)]; exact e3, (by show 6 < sizeLine; decide), ?_⟩
    have r5 : Same He (upd (upd H3 t (.tup [.ref (cl "NoText"), .ref (cl "NoAct"), .ref (cl "NoRecord"), .ref (cl "Barred"), .ref (cl "Unlike"), .ref (cl "NoRow")])) p3 (.lst ([.bl true, .bl false, .bl false, .bl false, .bl false, .bl false] ++ [.bl false]))) := fun b o e => by
      have n3 : b ≠ p3 := ne_of_none e (r2.free hp3)
      rw [upd_ne n3]
      exact r4 b o e
    generalize hH5 : upd (upd H3 t (.tup [.ref (cl "NoText"), .ref (cl "NoAct"), .ref (cl "NoRecord"), .ref (cl "Barred"), .ref (cl "Unlike"), .ref (cl "NoRow")])) p3 (.lst ([.bl true, .bl false, .bl false, .bl false, .bl false, .bl false] ++ [.bl false])) = H5 at *
    have e5 : H5 p3 = some (.lst [.bl true, .bl false, .bl false, .bl false, .bl false, .bl false, .bl false]) := by rw [← hH5, upd_same]; rfl
    refine ⟨_, rfl, .inl ⟨rfl, _, SqL.of e5⟩, p3, _, _, rfl, rfl, SqL.of e5, rfl, rfl, rfl, _, rfl, ite2 (fun z => absurd z (by decide)) fun _ => ?_⟩
    refine ⟨_, rfl, p3, _, 6, _, rfl, rfl, SqL.of e5, rfl, _, rfl, ite2 (fun z => absurd z (by decide)) fun _ => ?_⟩
    refine ⟨_, rfl, a, D, dd, fs, _, _, _, rfl, ha r5, hd r5, M.isC, fun _ r => r, M.kv, _, rfl, ite2 (fun z => absurd z (by decide)) fun _ => ?_⟩
    have ec : cutV [.bl true, .bl false, .bl false, .bl false, .bl false, .bl false, .bl false] none (some 3) = [.bl true, .bl false, .bl false] := by rfl
    refine ⟨_, rfl, 3, rfl, p3, _, rfl, SqL.of e5, fun p4 hp4 => ?_⟩
    rw [ec]
    have r6 := r5.put (o := .lst [.bl true, .bl false, .bl false]) (r5.free hp4)
    have e6 : (upd H5 p4 (.lst [.bl true, .bl false, .bl false])) p3 = some (.lst [.bl true, .bl false, .bl false, .bl false, .bl false, .bl false, .bl false]) := by rw [upd_ne (ne_of_none e5 hp4)]; exact e5
    refine ⟨p4, _, rfl, .inl (SqL.of upd_same), rfl, rfl, _, rfl, ite2 (fun _ => ?_) fun z => absurd rfl z⟩
    refine ⟨(by show 3 ≤ sizeLine; decide), fun p5 hp5 => ?_⟩
    have r7 := r6.put (o := .lst [.str "CLASS", .str "FUNCTION", .str "PROGRAM"]) (r6.free hp5)
    have e7 : (upd (upd H5 p4 (.lst [.bl true, .bl false, .bl false])) p5 (.lst [.str "CLASS", .str "FUNCTION", .str "PROGRAM"])) p3 = some (.lst [.bl true, .bl false, .bl false, .bl false, .bl false, .bl false, .bl false]) := by rw [upd_ne (ne_of_none e6 hp5)]; exact e6
    refine ⟨_, rfl, .inl ⟨rfl, _, SqL.of e7⟩, p3, _, _, 0, _, rfl, rfl, SqL.of e7, rfl, rfl, rfl, rfl, (fun m z h => absurd h (Nat.not_lt_zero m)), p5, _, _, _, rfl, rfl, SqL.of upd_same, atI_nat (j := 0) rfl, ?_⟩
    refine ⟨_, rfl, a, D, dd, fs, v1, rfl, ha r7, hd r7, M.xf, M.fw, l1, _, rfl, a, D, dd, fs, v2, rfl, ha r7, hd r7, M.xf, M.fm, l2, (by show 3 ≤ sizeLine; decide), fun t2 ht2 => ?_⟩
    exact k t2 _ (sE.trans (r7.put (r7.free ht2))) upd_same
end K2
end
section
set_option Elab.async false
set_option maxRecDepth 100000
set_option linter.all false
namespace K2
open PySem L2 PySem.Spec PyProof.Rows
theorem pick_all {α : Type} : ∀ l : List α, (List.range l.length).filterMap (fun k => l[k]?) = l
  | [] => rfl
  | a :: l => by
    rw [List.length_cons, List.range_succ_eq_map, List.filterMap_cons]
    simp only [List.getElem?_cons_zero, List.filterMap_map]
    congr 1
    have e : ((fun k => (a :: l)[k]?) ∘ Nat.succ) = fun k => l[k]? := by
      funext k
      simp
    rw [e]
    exact pick_all l
theorem pick_rev (xs : Array Value) : (List.range xs.size).filterMap (fun (k : Nat) => xs[(((xs.size : Int) - 1) + (k : Int) * (-1)).toNat]?) = xs.toList.reverse := by
  have h := pick_all xs.toList.reverse
  rw [List.length_reverse, Array.length_toList] at h
  refine Eq.trans ?_ h
  have cong : ∀ (l : List Nat) (f g : Nat → Option Value), (∀ k ∈ l, f k = g k) → l.filterMap f = l.filterMap g := by
    intro l f g
    induction l with
    | nil => intro _; rfl
    | cons a l ih =>
      intro q
      rw [List.filterMap_cons, List.filterMap_cons, q a List.mem_cons_self, ih fun k hk => q k (List.mem_cons_of_mem _ hk)]
  refine cong _ _ _ fun k hk => ?_
  have hk := List.mem_range.mp hk
  rw [List.getElem?_reverse (by rw [Array.length_toList]; exact hk), Array.length_toList, Array.getElem?_toList]
  congr 1
  omega
section
variable {prog : Program} {w : World} {A : Around} {E : Value → Shared → Prop} {s : Shared}
theorem rev_applied {sl : Addr} {vs : Value} {n : Nat} {Q : Int × Int × Nat → Shared → Prop} (hn : 0 < n) (hs : s.heap.IsSliceOf sl .none .none vs) (ps : IsPart vs (some (-1)))
    (h : Q (((n : Int) - 1), -1, n) s) : wpAny (model prog w) A (Builtin.Slice.sliceApplied (.ref sl) (pure (n : Int))) Q E s := by
  obtain ⟨os, hos, hcs, hds⟩ := id hs
  unfold Builtin.Slice.sliceApplied Builtin.Slice.sliceFields
  refine wpAny_bind (wpAny_bind (wpAny_field hos hds (x := .none) rfl (wpAny_bind (wpAny_field hos hds (x := .none) rfl (wpAny_bind (wpAny_field hos hds (x := vs) rfl (wpAny_pure ?_)))))))
  refine wpAny_bind (HT.slicePart_ ps ?_)
  show wpAny _ _ (if ((-1 : Int) == 0) = true then _ else _) _ _ s
  rw [if_neg (by decide)]
  refine wpAny_bind (slicePart_none (wpAny_bind (slicePart_none (wpAny_bind (wpAny_pure ?_)))))
  have e : Builtin.Slice.slicePlaces ((n : Int) - 1) (-1) (-1) = n := by
    unfold Builtin.Slice.slicePlaces
    rw [if_neg (by decide), if_pos (by omega)]
    have : ((n : Int) - 1 - -1 - 1) / (- -1) + 1 = n := by
      rw [show (- -1 : Int) = 1 from rfl, Int.ediv_one]
      omega
    rw [this]
    rfl
  show wpAny _ _ (pure (((n : Int) - 1), (-1 : Int), Builtin.Slice.slicePlaces ((n : Int) - 1) (-1) (-1))) _ _ s
  rw [e]
  exact wpAny_pure h
theorem rev_tuple {t sl : Addr} {items : Array Value} {vs : Value} {Q : Value → Shared → Prop} (hn : 0 < items.size) (ht : IsTup s.heap t items) (hs : s.heap.IsSliceOf sl .none .none vs) (ps : IsPart vs (some (-1)))
    (h : Q (.ref s.heap.objs.size) { s with heap := s.heap.push { cls := .type "tuple", data := .seq items.toList.reverse.toArray } }) (hsz : items.size ≤ sizeLine) : wpAny (model prog w) A (getItem (.ref t) (.ref sl)) Q E s := by
  have hz : sizeOk (.seq items.toList.reverse.toArray) := by
    show items.toList.reverse.toArray.size ≤ sizeLine
    rw [List.size_toArray, List.length_reverse, Array.length_toList]
    exact hsz
  obtain ⟨os, hos, hcs, hds⟩ := id hs
  have hTs : s.TypeIs (.ref sl) "slice" := ⟨os, hos, hcs⟩
  unfold getItem
  try with_reducible refine wpAny_holding ?_
  first | refine wpAny_bind (wpAny_pure ?_) | skip
  refine wpAny_bind (wpAny_sequenceKey ht.typeIs (by decide) ?_)
  refine wpAny_bind (wpAny_callSpecial?_slot (name := Str.ofString "__getitem__") ht.typeIs PyProof.Rows.slot_tuple_getitem
    (wpAny_call_entry PyProof.Rows.slot_tuple_getitem ht.typeIs entry_tuple_getitem ?_ (args_tuple_getitem _ _)))
  show wpAny _ _ (Builtin.Tuple.tupleItemsOf (.ref t) >>= _) _ _ s
  refine wpAny_bind (PyProof.Rows.tupleItemsOf_ ht ?_)
  refine wpAny_bind (wpAny_typeOf hTs ?_)
  rw [if_pos (by decide)]
  refine wpAny_bind (rev_applied hn hs ps ?_)
  have no : ¬ ((((items.size : Int) - 1) == 0 && (-1 : Int) == 1 && items.size == items.size) = true) := by simp
  show wpAny _ _ (if (((items.size : Int) - 1) == 0 && (-1 : Int) == 1 && items.size == items.size) = true then _ else _) _ _ s
  rw [if_neg no, pick_rev]
  first
    | exact wpAny_bind (m := Builtin.Tuple.tupleExact _) (wpAny_newObj_type (wpAny_pure ⟨_, rfl, wpAny_pure h⟩) hz)
    | exact wpAny_bind (m := Builtin.Tuple.tupleExact _) (wpAny_newObj_type (wpAny_bind (wpAny_pure (wpAny_pure ⟨_, rfl, wpAny_pure h⟩))) hz)
    | exact wpAny_bind (wpAny_bind (m := Builtin.Tuple.tupleExact _) (wpAny_newObj_type (wpAny_pure (wpAny_pure ⟨_, rfl, wpAny_pure h⟩)) hz))
    | exact wpAny_bind (wpAny_bind (m := Builtin.Tuple.tupleExact _) (wpAny_newObj_type (wpAny_pure ⟨_, rfl, wpAny_pure h⟩) hz))
end
/-- t[::-1] of a tuple -/
def tRevT (te : TE) : TE := fun σ H Q => te σ H fun x H1 => ∃ a xs, x = .ref a ∧ H1 a = some (.tup xs) ∧ 0 < xs.length ∧ ∀ p, H1 p = none → Q (.ref p) (upd H1 p (.tup xs.reverse))
theorem pe_revT {X : Cx} {e : Expr} {te : TE} {k : Nat} {p1 p2 p3 pos : Pos} (he : PE X e te) : PE X (.Subscript e (.Slice none none (some (.UnaryOp .USub (.Constant (.int 1) k p1) p2)) p3) pos) (tRevT te) := by
  constructor
  intro pins s σ H Q I h
  refine Subscript_ (thn (he.run pins s σ H _ I h) fun v s1 ⟨x, H1, I1, r1, a, xs, ex, hx, hn, q⟩ => ?_)
  subst ex
  cases r1
  have hst : PO X (some (.UnaryOp .USub (.Constant (.int 1) k p1) p2)) (tPart (tUn (rU fun i => .int (-i)) (tC (.int 1)))) := po_some (pe_un un_neg pe_int)
  refine wpAny_Slice (thn (po_none.run pins s1 σ H1 (fun o H2 => o = none ∧ H2 = H1) I1 ⟨rfl, rfl⟩) fun vl s2 ⟨l, H2, I2, pl, el, e2⟩ => ?_)
  subst el e2
  refine thn (po_none.run pins s2 σ H2 (fun o H3 => o = none ∧ H3 = H2) I2 ⟨rfl, rfl⟩) fun vu s3 ⟨u, H3, I3, pu, eu, e3⟩ => ?_
  subst eu e3
  refine thn (hst.run pins s3 σ H3 (fun o H4 => o = some (-1) ∧ H4 = H3) I3 ⟨1, rfl, -1, rfl, rfl, rfl⟩) fun vs s4 ⟨o, H4, I4, ps, eo, e4⟩ => ?_
  subst eo e4
  cases pl
  cases pu
  have I5 : Inv X pins σ H4 { s4 with heap := s4.heap.push { cls := .type "slice", data := .fields #[.none, .none, vs] } } := I4.kept (t' := s4.toks) fun b ob q => Heap.get?_push_of_some _ q
  obtain ⟨its, r, ht, hz⟩ := I5.tuple (SqT.of hx)
  have hlen := r.length
  show wpAny (model X.prog X.w) X.A (subscriptTail e (.Slice none none (some (.UnaryOp .USub (.Constant (.int 1) k p1) p2)) p3) (.ref a) (.ref s4.heap.objs.size)) (EP X pins σ Q) X.xe { s4 with heap := s4.heap.push { cls := .type "slice", data := .fields #[.none, .none, vs] } }
  refine tail_any (ops := [.ref a, .ref s4.heap.objs.size]) ht.typeIs (PyProof.Rows.slot_tuple_getitem.lookup) ?_ (by with_unfolding_all rfl)
  refine rev_tuple (by rw [List.size_toArray]; omega) ht (Heap.IsSliceOf.new _ .none .none vs) ps ?_ (by rw [List.size_toArray]; omega)
  refine ⟨.ref _, _, I5.laid (t' := s4.toks) (o := .tup xs.reverse) (fun b ob q => Heap.get?_push_of_some _ q) (Nat.le_refl _) ?_, rfl, q _ (I5.hok.fresh (Nat.le_refl _))⟩
  exact ⟨by rw [List.length_reverse]; exact hz, _, r.reverse, IsTup.new _ _⟩
end K2
end
section
set_option Elab.async false
set_option maxRecDepth 100000
set_option linter.all false
namespace K2
open PySem L2
theorem _root_.L2.TyX.same {K : PySem.W.Frag} {H H' : Hp} {x : V} {t : Value} (h : TyX K H x t) (s : Same H H') : TyX K H' x t := by
  cases h with
  | base h =>
    cases h with
    | non => exact .base .non
    | bl b => exact .base (.bl b)
    | int i => exact .base (.int i)
    | str y => exact .base (.str y)
    | flt y => exact .base (.flt y)
    | lst e => exact .base (.lst (s _ _ e))
    | frz e => exact .base (.frz (s _ _ e))
    | tup e => exact .base (.tup (s _ _ e))
    | dK e => exact .base (.dK (s _ _ e))
    | dT e => exact .base (.dT (s _ _ e))
    | ins e cl ha hn htk hm => exact .base (.ins (s _ _ e) cl ha hn htk hm)
  | byt b => exact .byt b
  | set e => exact .set (s _ _ e)
  | kList e c => exact .kList e c
  | kTuple e c => exact .kTuple e c
  | kDict e c => exact .kDict e c
  | fTuple e => exact .fTuple (s _ _ e)
  | fDict e => exact .fDict (s _ _ e)
/-- is_word of a text -/
def isW (x : Str) : Bool := !decide (8 < x.length) && (Txt.isascii x && (Txt.isalpha x && (Txt.islower x && !decide (x ∈ resd))))
theorem vw_isW {x : Str} (h : VW x) : isW x = true := by
  have hl : x.length ≤ 8 := by rw [len_codes]; exact h.le
  unfold isW
  rw [vw_ascii h, vw_alpha h, vw_lower h, decide_eq_false h.nr, decide_eq_false (by omega)]
  rfl
theorem long_isW {x : Str} (h : 8 < x.length) : isW x = false := by
  unfold isW
  rw [decide_eq_true h]
  rfl
/-- is_word of a value gives b -/
inductive WdV (K : PySem.W.Frag) (H : Hp) : V → Bool → Prop where
  | str (x : Str) (l : x.length ≤ sizeLine) : WdV K H (.str x) (isW x)
  | no {x : V} {t : Value} (ty : TyX K H x t) (k : PySem.W.kitOne K t (.type "str") = some false) : WdV K H x false
theorem WdV.same {K : PySem.W.Frag} {H H' : Hp} {x : V} {b : Bool} (h : WdV K H x b) (s : Same H H') : WdV K H' x b := by
  cases h with
  | str x l => exact .str x l
  | no ty k => exact .no (ty.same s) k
theorem WdV.vw {K : PySem.W.Frag} {H : Hp} {x : Str} (h : VW x) : WdV K H (.str x) true := by
  have := WdV.str (K := K) (H := H) x (Nat.le_trans (by rw [len_codes]; exact h.le) (by decide : 8 ≤ sizeLine))
  rwa [vw_isW h] at this
def spIsWG (K : PySem.W.Frag) : Sp := fun vs H Q _ => ∃ (x : V) (b : Bool), vs = [x] ∧ WdV K H x b ∧ Q (.bl b) H
/-- what the items of a tuple give -/
def WdAll (K : PySem.W.Frag) (H : Hp) (xs : List V) (bs : List Bool) : Prop := xs.length = bs.length ∧ ∀ (i : Nat) (x : V) (b : Bool), xs[i]? = some x → bs[i]? = some b → WdV K H x b
theorem WdAll.vw {K : PySem.W.Frag} {H : Hp} {xs : List Str} (h : ∀ x ∈ xs, VW x) : WdAll K H (xs.map V.str) (xs.map fun _ => true) :=
  ⟨by simp, fun i x b h1 h2 => by
    rw [List.getElem?_map] at h1 h2
    cases hx : xs[i]? with
    | none => rw [hx] at h1; cases h1
    | some y =>
      rw [hx] at h1 h2
      cases h1
      cases h2
      exact .vw (h y (List.mem_of_getElem? hx))⟩
def spAreWG (K : PySem.W.Frag) : Sp := fun vs H Q _ => ∃ (t : Addr) (xs : List V) (bs : List Bool), vs = [.ref t] ∧ H t = some (.tup xs) ∧ WdAll K H xs bs ∧ xs.length ≤ 100 ∧ ∀ H', Same H H' → Q (.bl (bs.all id)) H'
section
variable {P : Program} {w : World} {K : PySem.W.Frag} {mg : Str → Option Value} {base : Heap}
theorem ok_iswG {f aR : Addr} {t1 t2 : Tok} {fd : FuncData} (F : Fun K "is_word" "is_word" sIsW f fd) (T : Bi mg) (G : Gb K mg aR t1 t2) : FnOk P w K mg base CX0 1 f fd ["x"] (spIsWG K) := by
  refine F.ok scIsW (fun vs H Q E h => ?_) (fun cdv A outer s H vs Q E hr h => ?_)
  · obtain ⟨x, b, rfl, _⟩ := h
    rfl
  · obtain ⟨x, b, rfl, hx, k⟩ := h
    refine ⟨_, (pss_cons (ps_if (PW.pt (pw_or (pt_not (pt_val (pe_callB call_isi (by rfl) T.isinstance (by decide +kernel) (pa_cons (pv 0) (pa_cons (pe_bltn (v := .ty "str") (by rfl) T.str (by decide +kernel) rfl) pa_nil))))) (pw_or1 (pt_cmpR op_gt (pe_callB call_len_str (by rfl) T.len PySem.boot_len (pa_cons (pv 0) pa_nil)) (pe_glob (v := .int 8) rfl G.long ⟨_, rfl⟩) (nomark _)))))
      (pss_one (ps_ret pe_bl))
      pss_nil)
      (pss_one (ps_ret (pe_and (pe_m0 PySem.F.slot_str_isascii PySem.F.type_str_isascii mt_isascii (pv 0)) (pe_and (pe_m0 PySem.F.slot_str_isalpha PySem.F.type_str_isalpha mt_isalpha (pv 0)) (pe_and (pe_m0 PySem.F.slot_str_islower PySem.F.type_str_islower mt_islower (pv 0)) (pe_one (pe_cmpR op_notIn_seq (pv 0) (pe_glob (v := .ref aR) rfl G.res rfl) rfl)))))))), ?_⟩
    cases hx with
    | no ty kk => exact ⟨_, rfl, _, _, _, _, false, rfl, .ty _, ty, kk, _, rfl, iteT k⟩
    | str x hl =>
      refine ⟨_, rfl, _, _, _, _, true, rfl, .ty _, .base (.str _), kit_ty (by decide +kernel), _, rfl, ?_⟩
      refine ⟨_, rfl, _, rfl, hl, _, _, rfl, rfl, _, rfl, ite2 (fun h8 => ?_) (fun h8 => ?_)⟩
      · have h8 := of_decide_eq_true h8
        rw [long_isW (by omega)] at k
        exact k
      have h8 : ¬ 8 < x.length := fun q => h8 (decide_eq_true (by omega))
      have e : isW x = (Txt.isascii x && (Txt.isalpha x && (Txt.islower x && !decide (x ∈ resd)))) := by
        unfold isW
        rw [decide_eq_false h8]
        rfl
      rw [e] at k
      refine ⟨_, rfl, ⟨_, rfl⟩, _, rfl, rfl, trivial, _, rfl, ?_⟩
      cases h1 : Txt.isascii x with
      | false => rw [h1] at k; exact iteF k
      | true =>
        rw [h1] at k
        refine iteT ⟨_, rfl, ⟨_, rfl⟩, _, rfl, rfl, trivial, _, rfl, ?_⟩
        cases h2 : Txt.isalpha x with
        | false => rw [h2] at k; exact iteF k
        | true =>
          rw [h2] at k
          refine iteT ⟨_, rfl, ⟨_, rfl⟩, _, rfl, rfl, trivial, _, rfl, ?_⟩
          cases h3 : Txt.islower x with
          | false => rw [h3] at k; exact iteF k
          | true =>
            rw [h3] at k
            refine iteT ⟨_, rfl, aR, _, rfl, .inr (G.resT H), rfl, flat_strs _, ?_⟩
            rw [if_pos rfl, inV_strs]
            exact k
theorem ok_arewG {f fI : Addr} {fd fdI : FuncData} (F : Fun K "are_words" "are_words" sAreW f fd) (T : Bi mg) (IW : Df K mg "is_word" sIsW fI fdI ["x"]) (GI : FnOk P w K mg base CX0 1 fI fdI ["x"] (spIsWG K)) : FnOk P w K mg base CX0 2 f fd ["xs"] (spAreWG K) := by
  refine F.ok scAreW (fun vs H Q E h => ?_) (fun cdv A outer s H vs Q E hr h => ?_)
  · obtain ⟨t, xs, bs, rfl, _⟩ := h
    rfl
  · obtain ⟨t, xs, bs, rfl, ht, hx, hl, k⟩ := h
    have hr0 : Room 1 _ := hr
    refine ⟨_, (pss_one (ps_ret (pe_callB (cr_all rfl) (by rfl) T.all (by decide +kernel) (pa_cons (pe_lc (own := [("x", 1)]) (g := gName 1) (tt := tYes) rfl scAreW.nd (pi_tup (pv 0)) (blkOk_by (N := nAreW) (sc := defScope sAreW) (by decide +kernel)) (fun _ _ _ _ _ => pg_name (i := 1) scAreW.nd rfl (Or.inl rfl)) (fun _ _ _ _ _ => pts_nil) (fun _ _ _ _ _ => pe_call GI hr0 (by rfl) IW.m IW.F.kp IW.b .nil pass0 (pa_cons (pv 1) pa_nil))) pa_nil)))), ?_⟩
    refine ⟨_, rfl, t, rfl, ⟨_, SqT.of ht⟩, fun D hD => ?_⟩
    refine lc_tup (K := K) (a := t) (xs := xs) (fun i Hc => Hc D = some (.lst ((bs.take i).map V.bl)) ∧ Same H Hc) ?_ ?_ ?_ ?_
    · exact ⟨upd_same, (Same.refl H).put hD⟩
    · rintro i Hc _ ⟨_, sm⟩
      exact SqT.of (sm t _ ht)
    · rintro i y Hc hy ⟨h1, sm⟩
      have hil : i < xs.length := (List.getElem?_eq_some_iff.mp hy).1
      have hbi : bs[i]? = some (bs[i]'(by rw [← hx.1]; exact hil)) := List.getElem?_eq_getElem _
      generalize bs[i]'(by rw [← hx.1]; exact hil) = b at hbi
      refine ⟨rfl, _, rfl, y, b, rfl, (hx.2 i y b hy hbi).same sm, _, h1, ?_, ?_, sm.put hD⟩
      · rw [List.length_map, List.length_take]; show _ < 16777216; omega
      · rw [upd_same, List.take_add_one, hbi, List.map_append]
        rfl
    · rintro Hc ⟨h1, sm⟩
      rw [hx.1, List.take_length] at h1
      exact ⟨D, _, rfl, SqL.of h1, k Hc sm⟩
end
/-! ### NoClass -/
abbrev sNCI : Stmt := inClass (top 3) 0
def spNCI (C : Addr) : Sp := fun vs H Q _ => ∃ (a : Addr) (v1 v2 : V), vs = [.ref a, v1, v2] ∧ H a = some (exo a C none) ∧
  ∀ (d : Addr) (H' : Hp), H d = none → d ≠ a → H' a = some (exo a C (some d)) → H' d = some (exd d [("place", v2), ("reason", v1)]) → (∀ b o, H b = some o → b ≠ a → H' b = some o) → Q .non H'
structure NC (K : PySem.W.Frag) (mg : Str → Option Value) (C fI : Addr) : Prop where
  oex : OexC K C
  n1 : PySem.W.findIn K (.ref C) "reason" = some none
  n2 : PySem.W.findIn K (.ref C) "place" = some none
  iC : PySem.W.findIn K (.ref C) "__init__" = some (some (.ref fI))
  tI : PySem.W.typeIn K (.ref fI) = some (.type "function")
  gC : mg "NoClass" = some (.ref C)
section
variable {P : Program} {w : World} {K : PySem.W.Frag} {mg : Str → Option Value} {base : Heap}
theorem scNCI : FnScope ["self", "reason", "place"] ["self", "reason", "place"] (defScope sNCI) := ⟨rfl, rfl, rfl, by decide +kernel, rfl, by decide +kernel, by decide +kernel⟩
theorem ok_nci {f C : Addr} {fd : FuncData} (F : Fun K "__init__" "NoClass.__init__" sNCI f fd) (M : NC K mg C f) : FnOk P w K mg base CX0 1 f fd ["self", "reason", "place"] (spNCI C) := by
  refine F.ok scNCI (fun vs H Q E h => ?_) (fun cdv A outer s H vs Q E hr h => ?_)
  · obtain ⟨a, v1, v2, rfl, _⟩ := h
    rfl
  · obtain ⟨a, v1, v2, rfl, ha, k⟩ := h
    refine ⟨_, pss_cons (ps_ost (pv 0) (pv 1)) (pss_one (ps_ost (pv 0) (pv 2))), ?_⟩
    refine ⟨_, rfl, _, rfl, a, C, rfl, M.oex, M.n1, .inl ⟨ha, fun d hd hne => ?_⟩⟩
    have e1 : (upd (upd H d (exd d [("reason", v1)])) a (exo a C (some d))) d = some (exd d [("reason", v1)]) := by rw [upd_ne hne, upd_same]
    refine ⟨_, rfl, _, rfl, a, C, rfl, M.oex, M.n2, .inr ⟨d, _, upd_same, e1, (by show 1 ≤ 900; decide), ?_⟩⟩
    refine k d _ hd hne (by rw [upd_ne (Ne.symm hne), upd_same]) upd_same fun b o hb n => ?_
    rw [upd_ne (ne_of_none hb hd), upd_ne n, upd_ne (ne_of_none hb hd)]
    exact hb
end
end K2
end
section
set_option Elab.async false
set_option maxRecDepth 100000
set_option linter.all false
namespace K2
open PySem L2 PySem.Spec PyProof.Rows
theorem rising_pw : ∀ (p : Str) (l : List Str), PyProof.Rows.risingS p l = true → (p :: l).Pairwise (fun a b => PySem.Spec.ltCps b.cps.toList a.cps.toList = false)
  | p, [], _ => List.pairwise_singleton _ _
  | p, x :: r, h => by
    have h2 := Bool.and_eq_true_iff.mp (show (!PySem.Spec.ltCps x.cps.toList p.cps.toList && PyProof.Rows.risingS x r) = true from h)
    have ih := rising_pw x r h2.2
    have h1 : PySem.Spec.ltCps x.cps.toList p.cps.toList = false := by simpa using h2.1
    refine List.pairwise_cons.mpr ⟨fun y hy => ?_, ih⟩
    rcases List.mem_cons.mp hy with rfl | hy
    · exact h1
    · have h3 := (List.pairwise_cons.mp ih).1 y hy
      rw [PyProof.Rows.ltCps_eq, decide_eq_false_iff_not] at h1 h3 ⊢
      exact List.le_trans (α := Nat) (l₁ := p.cps.toList) (l₂ := x.cps.toList) (l₃ := y.cps.toList) h1 h3
theorem sorted_pw : ∀ l : List Str, PyProof.Rows.sortedS l = true → l.Pairwise (fun a b => PySem.Spec.ltCps b.cps.toList a.cps.toList = false)
  | [], _ => .nil
  | x :: r, h => rising_pw x r h
theorem sorted_sub {l l' : List Str} (h : PyProof.Rows.sortedS l' = true) (s : l.Sublist l') : PyProof.Rows.sortedS l = true := PyProof.Rows.sortedS_of_pairwise l ((sorted_pw l' h).sublist s)
theorem sorted_one : ∀ {l l' : List Str}, l.Nodup → l'.Nodup → PyProof.Rows.sortedS l = true → PyProof.Rows.sortedS l' = true → (∀ y, y ∈ l ↔ y ∈ l') → l = l' := by
  have anti : ∀ {a b : Str}, PySem.Spec.ltCps a.cps.toList b.cps.toList = false → PySem.Spec.ltCps b.cps.toList a.cps.toList = false → a = b := fun {a b} h1 h2 => by
    rw [PyProof.Rows.ltCps_eq, decide_eq_false_iff_not] at h1 h2
    have e : a.cps.toList = b.cps.toList := List.le_antisymm (α := Nat) h2 h1
    have e2 : a.cps = b.cps := Array.toList_inj.mp e
    cases a
    cases b
    cases e2
    rfl
  intro l
  induction l with
  | nil =>
    intro l' _ _ _ _ h
    cases l' with
    | nil => rfl
    | cons y r => exact absurd ((h y).mpr List.mem_cons_self) (by simp)
  | cons x l ih =>
    intro l' n1 n2 s1 s2 h
    cases l' with
    | nil => exact absurd ((h x).mp List.mem_cons_self) (by simp)
    | cons y r =>
      have p1 := List.pairwise_cons.mp (sorted_pw _ s1)
      have p2 := List.pairwise_cons.mp (sorted_pw _ s2)
      have e : x = y := by
        rcases List.mem_cons.mp ((h x).mp List.mem_cons_self) with q | q
        · exact q
        · rcases List.mem_cons.mp ((h y).mpr List.mem_cons_self) with q2 | q2
          · exact q2.symm
          · exact anti (p2.1 x q) (p1.1 y q2)
      subst e
      have m1 := List.nodup_cons.mp n1
      have m2 := List.nodup_cons.mp n2
      rw [ih m1.2 m2.2 (sorted_sub s1 (List.sublist_cons_self _ _)) (sorted_sub s2 (List.sublist_cons_self _ _)) fun z => ?_]
      constructor
      · intro hz
        rcases List.mem_cons.mp ((h z).mp (List.mem_cons_of_mem _ hz)) with q | q
        · exact absurd (q ▸ hz) m1.1
        · exact q
      · intro hz
        rcases List.mem_cons.mp ((h z).mpr (List.mem_cons_of_mem _ hz)) with q | q
        · exact absurd (q ▸ hz) m2.1
        · exact q
/-! ### lists and tuples beside empty ones -/
section
variable {X : Cx}
/-- xs != [] of any list -/
def rNeL0 (K : PySem.W.Frag) : R2 := fun x y H Q => ∃ a b xs, x = .ref a ∧ y = .ref b ∧ SqL K H a xs ∧ SqL K H b [] ∧ Q (.bl (!xs.isEmpty)) H
def rEqL0 (K : PySem.W.Frag) : R2 := fun x y H Q => ∃ a b xs, x = .ref a ∧ y = .ref b ∧ SqL K H a xs ∧ SqL K H b [] ∧ Q (.bl xs.isEmpty) H
/-- t != () of any tuple -/
def rNeT0 (K : PySem.W.Frag) : R2 := fun x y H Q => ∃ a b xs, x = .ref a ∧ y = .ref b ∧ SqT K H a xs ∧ SqT K H b [] ∧ Q (.bl (!xs.isEmpty)) H
theorem op_neL0 (hu : X.A.units < cLine) : OpR X (compareOp .NotEq) (rNeL0 X.K) := by
  intro pins s σ H x y v u Q I rx ry h
  obtain ⟨a, b, xs, rfl, rfl, ha, hb, q⟩ := h
  cases rx
  cases ry
  obtain ⟨as, ra, la, _⟩ := I.list ha
  obtain ⟨bs, rb, lb, _⟩ := I.list hb
  cases rb
  have fin : EP X pins σ Q (.bool (!xs.isEmpty)) s := ⟨.bl _, H, I, rfl, q⟩
  show wpAny (model X.prog X.w) X.A (richCompare .NotEq (.ref a) (.ref b)) (EP X pins σ Q) X.xe s
  cases ra with
  | nil => exact SeqAt.RcNeAt.lists (e := fun _ => true) la.isList lb.isList rfl hu (fun j h1 h2 => absurd h1 (Nat.not_lt_zero j)) _ _ _ _ fin
  | cons r t => exact SeqAt.RcNeAt.lists_lengths la.isList lb.isList (by simp) hu _ _ _ _ fin
theorem op_eqL0 (hu : X.A.units < cLine) : OpR X (compareOp .Eq) (rEqL0 X.K) := by
  intro pins s σ H x y v u Q I rx ry h
  obtain ⟨a, b, xs, rfl, rfl, ha, hb, q⟩ := h
  cases rx
  cases ry
  obtain ⟨as, ra, la, _⟩ := I.list ha
  obtain ⟨bs, rb, lb, _⟩ := I.list hb
  cases rb
  have fin : EP X pins σ Q (.bool xs.isEmpty) s := ⟨.bl _, H, I, rfl, q⟩
  show wpAny (model X.prog X.w) X.A (richCompare .Eq (.ref a) (.ref b)) (EP X pins σ Q) X.xe s
  cases ra with
  | nil => exact SeqAt.RcAt.lists (e := fun _ => true) la.isList lb.isList rfl hu (fun j h1 h2 => absurd h1 (Nat.not_lt_zero j)) _ _ _ _ fin
  | cons r t => exact SeqAt.RcAt.lists_lengths la.isList lb.isList (by simp) hu _ _ _ _ fin
theorem op_neT0 (hu : X.A.units < cLine) : OpR X (compareOp .NotEq) (rNeT0 X.K) := by
  intro pins s σ H x y v u Q I rx ry h
  obtain ⟨a, b, xs, rfl, rfl, ha, hb, q⟩ := h
  cases rx
  cases ry
  obtain ⟨as, ra, ta, _⟩ := I.tuple ha
  obtain ⟨bs, rb, tb, _⟩ := I.tuple hb
  cases rb
  have fin : EP X pins σ Q (.bool (!xs.isEmpty)) s := ⟨.bl _, H, I, rfl, q⟩
  show wpAny (model X.prog X.w) X.A (richCompare .NotEq (.ref a) (.ref b)) (EP X pins σ Q) X.xe s
  have := SeqAt.RcNeAt.tuples (A := X.A) (s := s) (e := fun _ => true) ta tb hu (fun j h1 h2 => absurd h2 (Nat.not_lt_zero j))
  cases ra with
  | nil => exact this _ _ _ _ fin
  | cons r t => exact this _ _ _ _ fin
/-! ### repr of None or of data -/
def rReprU (K : PySem.W.Frag) : List V → Hp → VK → Prop := fun xs H Q => (xs = [V.non] ∧ Q (.str "None") H) ∨ rReprD K xs H Q
theorem call_reprU (gu : X.A.guards = some []) (hu : X.A.units + 64 < cLine) : CallR X (.builtin "repr") (rReprU X.K) := by
  intro pins s σ H xs us Q I r h
  rcases h with ⟨rfl, q⟩ | h
  · obtain ⟨u, rfl, ru⟩ := r.one
    obtain rfl : u = Value.none := ru
    exact PySem.P.repr_of_none ⟨.str _, H, I.tok _, ⟨_, rfl⟩, q⟩
  · exact call_reprD gu hu pins s σ H xs us Q I r h
end
section
variable {p : Program} {w : World} {A : Around} {E : Value → Shared → Prop} {s : Shared}
set_option maxHeartbeats 3200000 in
/-- set(t) of a tuple of texts holds just these -/
theorem set_of_tupS {l : Addr} {its : Array Value} {xs : List Str} {Q : Value → Shared → Prop} (hh : A.handled = none) (hl : s.heap.IsTuple l its) (hi : StrsAre its.toList xs) (few : xs.length ≤ 1000)
    (fin : ∀ (h' : Heap) (tk : Nat), HasS p w h' s.heap.objs.size xs xs.length → (∀ b o, b < s.heap.objs.size → s.heap.get? b = some o → h'.get? b = some o) → Q (.ref s.heap.objs.size) { s with heap := h', toks := tk }) :
    wpAny (model p w) A (call (.type "set") [.ref l]) Q E s := by
  have sz : its.size = xs.length := by rw [← Array.length_toList, StrsAre.len_eq hi]
  obtain ⟨c, tl, hmro⟩ := F.called_set.mro
  have m1 := F.called_set.made
  have m2 := F.called_set.sub
  refine wpAny_call (codeAny_of_tree (wpAny_pure ⟨Code.quiet_builtin _ (by decide +kernel), codeAny_builtin F.entry_type_call (by
    rw [Around.under_plain (weight_type_call_type "set" [.ref l] []) rfl]
    have m3 := F.called_set.notType
    have m4 := F.called_set.canCreate
    have m5 := F.typeCall_set_1 (.ref l)
    repeat (any_goals (first | assumption | wp_step))
    refine codeAny_mono (fresh_led (P := p) (w := w) (a := .ref l) (E := E) (Q := fun v z => v = .ref s.heap.objs.size ∧ z = { s with heap := s.heap.push (Froz.sObj "set" (#[], 0, .fresh 0 0 (!w.params.followText "set-order"))) }) ⟨rfl, rfl⟩) fun r z hr => ?_
    cases r with
    | error e => exact hr
    | ok fl =>
      cases fl with
      | next => exact hr.elim
      | brk => exact hr.elim
      | cont => exact hr.elim
      | ret v =>
        obtain ⟨rfl, rfl⟩ := hr
        generalize hled : (!w.params.followText "set-order") = led
        have hS : (s.heap.push (Froz.sObj "set" (#[], 0, .fresh 0 0 led))).get? s.heap.objs.size = some (Froz.sObj "set" (#[], 0, .fresh 0 0 led)) := Heap.get?_push_size _ rfl
        have hT : Shared.TypeIs { s with heap := s.heap.push (Froz.sObj "set" (#[], 0, .fresh 0 0 led)) } (.ref s.heap.objs.size) "set" := ⟨_, hS, rfl⟩
        have n1 := F.called_set.init.lookup
        have n2 := F.called_set.init.bind (.ref s.heap.objs.size)
        repeat (any_goals (first | assumption | wp_step))
        refine codeAny_mono (codeAny_call_builtin (R := wants (fun r z => r = .none ∧ ∃ h' tk, z = { s with heap := h', toks := tk } ∧ HasS p w h' s.heap.objs.size xs xs.length ∧ (∀ b o, b < s.heap.objs.size → s.heap.get? b = some o → h'.get? b = some o)) E) F.called_set.init.plain F.entry_set_init (check_set_init_1 hT ?_)) fun r2 z2 hr2 => ?_
        · obtain ⟨⟨tc, td, tdata, tsl⟩, ho, hc, tn, hd⟩ := hl
          simp only at hc hd
          subst hc hd
          have ho2 : (s.heap.push (Froz.sObj "set" (#[], 0, .fresh 0 0 led))).get? l = some { cls := .type "tuple", dict := td, data := .seq its tn, slots := tsl } := Heap.get?_push_of_some _ ho
          have q1 := F.sub_tuple_set
          have q2 := F.sub_tuple_frozenset
          have q3 : (Value.type "tuple" == Value.type "dict") = false := by decide
          have lis : (s.heap.push (Froz.sObj "set" (#[], 0, .fresh 0 0 led))).IsTuple l its := ⟨_, ho2, rfl, tn, rfl⟩
          have lS : l < s.heap.objs.size := Heap.lt_size ho
          have pz : (s.heap.push (Froz.sObj "set" (#[], 0, .fresh 0 0 led))).objs.size = s.heap.objs.size + 1 := Heap.size_push ..
          unfold Builtin.«set.__init__» noKeywords Builtin.Frozenset.updateFrom
          generalize hPI : pyIter = PI
          unfold Froz.sObj at *
          wp_walk
          subst hPI
          refine wpAny_pyIter_tuple lis (wpAny_bind (wpAny_runValue ?_))
          have hn3 : A.in1.in1.in1.handled = none := by simp [hh]
          have vals : ∀ (j : Nat) (v : Value), its[j]? = some v → ∃ t, v = .str (xs.getD j Str.empty) t := fun j v hv => SS.strs_at hi j v (by rw [Array.getElem?_toList]; exact hv)
          refine set_eats ((Walks.tuple hn3 _ l (by rw [Heap.size_push]; exact Nat.ne_of_lt (Nat.lt_succ_of_lt lS)) its).toS) (a := s.heap.objs.size) (by
            simp only [List.mem_cons, List.not_mem_nil, or_false, not_or]
            exact ⟨by rw [Heap.size_push]; exact (Nat.succ_ne_self _).symm, Nat.ne_of_gt lS⟩) sz.symm (by omega) vals (its.size - 0) 0 _ (by omega) (Nat.zero_le _) ⟨⟨_, Heap.get?_push_size _ rfl, rfl, rfl⟩, lis.push _⟩ ?_ ?_
          · refine ⟨(#[], 0, .fresh 0 0 led), [], Heap.get?_push_of_some _ hS, ⟨Froz.TxOk.nil rfl, fun e he => by simp at he, .nil, List.Pairwise.nil, ?_⟩, List.nodup_nil, Nat.zero_le _, fun y => by simp⟩
            show _ ∨ led = true
            rw [← hled]
            cases w.params.followText "set-order"
            · exact .inr rfl
            · exact .inl rfl
          · rintro ⟨h', g', d', tk', os'⟩ mv se
            obtain rfl : g' = s.gens := mv.gens
            obtain rfl : d' = s.drawn := mv.drawn
            obtain rfl : os' = s.os := mv.os
            refine wpAny_pure (wpAny_pure ⟨rfl, h', tk', rfl, by rw [← sz]; exact se, fun b o hb e => mv.heap b o ?_ (Heap.get?_push_of_some _ (Heap.get?_push_of_some _ e))⟩)
            simp only [List.mem_cons, List.not_mem_nil, or_false, not_or]
            exact ⟨Nat.ne_of_lt hb, by rw [Heap.size_push]; exact Nat.ne_of_lt (Nat.lt_succ_of_lt hb)⟩
        · cases r2 with
          | error e => exact hr2
          | ok f2 =>
            cases f2 with
            | next => exact hr2.elim
            | brk => exact hr2.elim
            | cont => exact hr2.elim
            | ret v =>
              obtain ⟨rfl, h', tk, rfl, se, kp⟩ := hr2
              repeat (any_goals (first | assumption | wp_step))
              exact fin _ _ se kp)⟩))
end
section
variable {X : Cx}
def tLenSetG (ta : TE) : TE := fun σ H Q => ta σ H fun x H1 => ∃ (l : Addr) (xs : List Str), x = .ref l ∧ H1 l = some (.tup (xs.map V.str)) ∧ xs.length ≤ 1000 ∧ ∀ ys : List Str, ys.Nodup → (∀ y, y ∈ ys ↔ y ∈ xs) → Q (.int (ys.length : Nat)) H1
/-- len(set(t)), t a tuple of texts -/
theorem pe_lenSetG {a : Expr} {ta : TE} {p1 p2 p3 pos : Pos} (h1 : Gl X "len") (h2 : X.mg "len" = none) (h3 : Gl X "set") (h4 : X.mg "set" = none) (ha : PE X a ta) (hc : X.calm = true := by rfl)
    (na : starEach [a] X.env = (false, eval a X.env) :: starEach [] X.env := by rfl) : PE X (.Call (.Name "len" p1) [.Call (.Name "set" p2) [a] [] p3] [] pos) (tLenSetG ta) := by
  refine ⟨fun pins s σ H Q I h => Call_ (ld_blt I h1 h2 boot_len (callWith_builtin1 (args_cons (Call_ (ld_blt I h3 h4 boot_set (callWith_type1 (args_cons (thn (ha.run pins s σ H _ I h) fun v s1 ⟨x, H1, I1, r1, q1⟩ => args_nil ?_) na) na rfl))) rfl) rfl rfl))⟩
  obtain ⟨l, xs, rfl, hl, few, q⟩ := q1
  cases r1
  obtain ⟨its, r, pl, _⟩ := I1.tuple (SqT.of hl)
  have hx : StrsAre its xs := by simpa using strsAre_of r
  refine set_of_tupS (I1.ok.hd hc) pl (by simpa using hx) few fun h' tk hS hk => args_nil ?_
  obtain ⟨D, ys, hD, W, nd, hl2, hm⟩ := hS
  have I2 : Inv X pins σ H1 { s1 with heap := h', toks := tk } := I1.kept fun b o e => hk b o (Heap.lt_size e) e
  have sz := W.ok.sz
  refine call_len_set hD ⟨rfl, rfl, rfl⟩ rfl W.ok.fit (by omega) ⟨.int ys.length, H1, I2.tok _, ⟨_, by rw [sz]⟩, q ys nd hm⟩
def tSortedSetT (te : TE) : TE := fun σ H Q => te σ H fun x H1 => ∃ (l : Addr) (xs : List Str), x = .ref l ∧ H1 l = some (.tup (xs.map V.str)) ∧ xs.length < 64 ∧
  ∀ (ys : List Str) (q : Addr), ys.Nodup → ys.length ≤ xs.length → (∀ y, y ∈ ys ↔ y ∈ xs) → sortedS ys = true → H1 q = none → Q (.ref q) (upd H1 q (.lst (ys.map V.str)))
/-- sorted(set(t)), t a tuple of texts -/
theorem pe_sortedSetT {a : Expr} {ta : TE} {p1 p2 p3 pos : Pos} (h1 : Gl X "sorted") (h2 : X.mg "sorted" = none) (h3 : Gl X "set") (h4 : X.mg "set" = none) (ha : PE X a ta) (hc : X.calm = true := by rfl)
    (na : starEach [a] X.env = (false, eval a X.env) :: starEach [] X.env := by rfl) (bs : bootBuiltins "sorted" = some (.builtin "sorted") := by decide +kernel) : PE X (.Call (.Name "sorted" p1) [.Call (.Name "set" p2) [a] [] p3] [] pos) (tSortedSetT ta) := by
  refine ⟨fun pins s σ H Q I h => Call_ (ld_blt I h1 h2 bs (callWith_builtin1 (args_cons (Call_ (ld_blt I h3 h4 boot_set (callWith_type1 (args_cons (thn (ha.run pins s σ H _ I h) fun v s1 ⟨x, H1, I1, r1, q1⟩ => args_nil ?_) na) na rfl))) rfl) rfl rfl))⟩
  obtain ⟨l, xs, rfl, hl, few, q⟩ := q1
  cases r1
  obtain ⟨its, r, pl, _⟩ := I1.tuple (SqT.of hl)
  have hx : StrsAre its xs := by simpa using strsAre_of r
  refine set_of_tupS (I1.ok.hd hc) pl (by simpa using hx) (by omega) fun h' tk hS hk => args_nil ?_
  have I2 : Inv X pins σ H1 { s1 with heap := h', toks := tk } := I1.kept fun b o e => hk b o (Heap.lt_size e) e
  have hS2 : HasS X.prog X.w ({ s1 with heap := h', toks := tk } : Shared).heap s1.heap.objs.size xs xs.length := hS
  generalize ({ s1 with heap := h', toks := tk } : Shared) = s2 at I2 hS2 ⊢
  refine sorted_has hS2 (I1.ok.hd hc) few fun z p out c ys k g o hp hg hi nd le me so => ?_
  have hlen : (ys.map V.str).length ≤ sizeLine := by rw [List.length_map, sizeLine_eq]; omega
  have hn : H1 p = none := I2.hok.fresh hp
  have J : Inv X pins σ (upd H1 p (.lst (ys.map V.str))) { s2 with heap := z.heap, gens := z.gens, drawn := z.drawn, toks := z.toks } :=
    I2.call (ch := []) (Un.laid k hp hn) (I2.hok.laid k hp ⟨hlen, out.toList, c, vals_of_strs hi, hg⟩) (by rw [g]; exact I2.bare) (fun _ z => nomatch z)
  have e : z = { s2 with heap := z.heap, gens := z.gens, drawn := z.drawn, toks := z.toks } := by
    cases z
    cases s2
    cases o
    rfl
  rw [e]
  exact ⟨.ref p, _, J, rfl, q ys p nd le me so hn⟩
end
end K2
end
section
set_option Elab.async false
set_option maxRecDepth 100000
set_option linter.all false
namespace K2
open PySem L2
/-- row n, a value v, has the fault r behind the names nm -/
inductive FaultV (K : PySem.W.Frag) (H : Hp) (nm : List Str) : V → Nat → Str → Prop where
  | many (v : V) : FaultV K H nm v 30 "many"
  | row1 {v : V} {t : Value} {n : Nat} (hn : n < 30) (ty : TyX K H v t) (k : PySem.W.kitOne K t (.type "tuple") = some false) : FaultV K H nm v n "row"
  | row2 {a : Addr} {xs : List V} {n : Nat} (hn : n < 30) (h : H a = some (.tup xs)) (l : xs.length < 2) : FaultV K H nm (.ref a) n "row"
  | row3 {a : Addr} {xs : List V} {bs : List Bool} {n : Nat} (hn : n < 30) (h : H a = some (.tup xs)) (l : 2 ≤ xs.length) (l2 : xs.length ≤ 100) (wd : WdAll K H xs bs) (no : bs.all id = false) : FaultV K H nm (.ref a) n "row"
  | name {a : Addr} {x : Str} {bs : List Str} {n : Nat} (hn : n < 30) (h : H a = some (.tup ((x :: bs).map V.str))) (l : bs ≠ []) (l2 : bs.length ≤ 60) (vw : ∀ y ∈ x :: bs, VW y) (hx : x ∈ nm) : FaultV K H nm (.ref a) n "name"
  | base {a : Addr} {x : Str} {bs : List Str} {n : Nat} (hn : n < 30) (h : H a = some (.tup ((x :: bs).map V.str))) (l : bs ≠ []) (l2 : bs.length ≤ 60) (vw : ∀ y ∈ x :: bs, VW y) (hx : x ∉ nm) (hb : (∃ b ∈ bs, b ∉ nm) ∨ ¬ bs.Nodup) : FaultV K H nm (.ref a) n "base"
def spFaultX (K : PySem.W.Frag) : Sp := fun vs H Q _ => ∃ (v : V) (d : Addr) (n : Nat) (r : Str) (kvs : List (Key × V)) (tb : Tb), vs = [v, .int n, .ref d] ∧ H d = some (.dK kvs) ∧ Tab fD H kvs tb ∧ FaultV K H (keys tb) v n r ∧
  ∀ (H' : Hp), Same H H' → Q (.str r) H'
theorem Tab.some_iff {f : List Str → HO} {H : Hp} {kvs : List (Key × V)} {tb : Tb} (TB : Tab f H kvs tb) (x : Str) : (valV kvs (Sum.inr x : Key)).isSome = decide (x ∈ keys tb) := by
  by_cases h : x ∈ keys tb
  · obtain ⟨u, hu, _⟩ := TB.val h
    rw [hu, decide_eq_true h]
    rfl
  · rw [TB.none h, decide_eq_false h]
    rfl
theorem not_nodup : ∀ {xs : List Str}, ¬ xs.Nodup → ∃ zs : List Str, zs.length < xs.length ∧ ∀ y ∈ xs, y ∈ zs
  | [], h => absurd List.nodup_nil h
  | x :: r, h => by
    by_cases hx : x ∈ r
    · refine ⟨r, by simp, fun y hy => ?_⟩
      rcases List.mem_cons.mp hy with rfl | hy
      · exact hx
      · exact hy
    · obtain ⟨zs, h1, h2⟩ := not_nodup (xs := r) fun n => h (List.nodup_cons.mpr ⟨hx, n⟩)
      refine ⟨x :: zs, by simp; exact h1, fun y hy => ?_⟩
      rcases List.mem_cons.mp hy with rfl | hy
      · exact List.mem_cons_self
      · exact List.mem_cons_of_mem _ (h2 y hy)
theorem set_len {xs ys : List Str} (nd : ys.Nodup) (me : ∀ y, y ∈ ys ↔ y ∈ xs) : decide (ys.length = xs.length) = decide xs.Nodup := by
  by_cases h : xs.Nodup
  · rw [decide_eq_true h, decide_eq_true (((List.perm_ext_iff_of_nodup nd h).mpr me).length_eq)]
  · rw [decide_eq_false h]
    refine decide_eq_false fun e => ?_
    obtain ⟨zs, h1, h2⟩ := not_nodup h
    have := nd.length_le_of_subset fun y hy => h2 y ((me y).mp hy)
    omega
def spAreDG : Sp := fun vs H Q _ => ∃ (t : Addr) (xs : List Str), vs = [.ref t] ∧ H t = some (.tup (xs.map V.str)) ∧ xs.length ≤ 1000 ∧ Q (.bl (decide xs.Nodup)) H
section
variable {P : Program} {w : World} {K : PySem.W.Frag} {mg : Str → Option Value} {base : Heap}
theorem ok_aredG {f : Addr} {fd : FuncData} (F : Fun K "are_different" "are_different" sAreD f fd) (T : Bi mg) : FnOk P w K mg base CX0 1 f fd ["words"] spAreDG := by
  refine F.ok scAreD (fun vs H Q E h => ?_) (fun cdv A outer s H vs Q E hr h => ?_)
  · obtain ⟨t, xs, rfl, _⟩ := h
    rfl
  · obtain ⟨t, xs, rfl, ht, few, k⟩ := h
    refine ⟨_, pss_one (ps_ret (pe_cmpR op_eq (pe_lenSetG (by rfl) T.len (by rfl) T.set (pv 0)) (pe_callB call_len_seq (by rfl) T.len PySem.boot_len (pa_cons (pv 0) pa_nil)) (nomark _))), ?_⟩
    refine ⟨_, rfl, t, xs, rfl, ht, few, fun ys nd me => ⟨_, rfl, t, _, rfl, .inr (SqT.of ht), rfl, ?_⟩⟩
    have e : decide (V.int ((ys.length : Nat) : Int) = V.int (((xs.map V.str).length : Nat) : Int)) = decide xs.Nodup := by
      rw [← set_len nd me, List.length_map]
      refine decide_eq_decide.mpr ⟨fun q => ?_, fun q => by rw [q]⟩
      have := V.int.inj q
      omega
    rw [e]
    exact k
theorem ok_faultX {f fA fF aR : Addr} {fd fdA fdF : FuncData} {t1 t2 : Tok} (F : Fun K "_fault" "_fault" sFault f fd) (T : Bi mg) (G : Gb K mg aR t1 t2) (AW : Df K mg "are_words" sAreW fA fdA ["xs"]) (GA : FnOk P w K mg base CX0 2 fA fdA ["xs"] (spAreWG K))
    (AD : Df K mg "are_different" sAreD fF fdF ["words"]) (GF : FnOk P w K mg base CX0 1 fF fdF ["words"] spAreDG) : FnOk P w K mg base CX0 3 f fd ["row", "k", "lines"] (spFaultX K) := by
  refine F.ok scFault (fun vs H Q E h => ?_) (fun cdv A outer s H vs Q E hr h => ?_)
  · obtain ⟨v, d, n, r, kvs, tb, rfl, _⟩ := h
    rfl
  · obtain ⟨v, d, n, r, kvs, tb, rfl, hd, TB, FV, k⟩ := h
    have hu := hu_of hr
    have hr2 : Room 2 _ := hr
    have hr1 : Room 1 _ := hr.mono (by decide)
    refine ⟨_, (pss_cons (ps_if (pt_cmpR op_eq (pv 1) (pe_glob (v := .int 30) rfl G.most ⟨_, rfl⟩) (nomark _))
      (pss_one (ps_ret pe_str))
      pss_nil)
      (pss_cons (ps_if (PW.pt (pw_or (pt_not (pt_val (pe_callB call_isi (by rfl) T.isinstance (by decide +kernel) (pa_cons (pv 0) (pa_cons (pe_bltn (v := .ty "tuple") (by rfl) T.tuple (by decide +kernel) rfl) pa_nil))))) (pw_or (pt_cmpR op_lt (pe_callB call_len_seq (by rfl) T.len PySem.boot_len (pa_cons (pv 0) pa_nil)) pe_int (nomark _)) (pw_or1 (pt_not (pt_val (pe_call GA hr2 (by rfl) AW.m AW.F.kp AW.b .nil pass0 (pa_cons (pv 0) pa_nil))))))))
      (pss_one (ps_ret pe_str))
      pss_nil)
      (pss_cons (ps_if (pt_cmp (pc_din hu (pe_ix ix_tup (pv 0) pe_int (fun _ _ => rfl)) (pv 2)))
      (pss_one (ps_ret pe_str))
      pss_nil)
      (pss_cons (ps_set (i := 3) scFault.nd rfl (Or.inl rfl) (pe_slice sl_tup2 (pv 0) (po_some pe_int) po_none))
      (pss_cons (ps_if (PW.pt (pw_or (pt_not (pt_val (pe_callB (cr_all rfl) (by rfl) T.all (by decide +kernel) (pa_cons (pe_lc (own := [("base", 4)]) (g := gName 4) (tt := tYes) rfl scFault.nd (pi_tup (pv 3)) (blkOk_by (N := nFault) (sc := defScope sFault) (by decide +kernel)) (fun _ _ _ _ _ => pg_name (i := 4) scFault.nd rfl (Or.inl rfl)) (fun _ _ _ _ _ => pts_nil) (fun _ _ _ _ _ => pe_cmp (pc_din hu (pv 4) (pv 2)) rfl)) pa_nil)))) (pw_or1 (pt_not (pt_val (pe_call GF hr1 (by rfl) AD.m AD.F.kp AD.b .nil pass0 (pa_cons (pv 3) pa_nil)))))))
      (pss_one (ps_ret pe_str))
      pss_nil)
      (pss_one (ps_ret pe_non))))))), ?_⟩
    have n30 : ∀ {m : Nat}, m < 30 → ¬ (decide (V.int (m : Int) = V.int 30) = true) := fun h q => by
      have e := V.int.inj (of_decide_eq_true q)
      omega
    have isT : ∀ {a : Addr} {xs : List V} {H : Hp}, H a = some (.tup xs) → TyX K H (.ref a) (.type "tuple") := fun h => .base (.tup h)
    cases FV with
    | many v => exact ⟨_, rfl, rfl, _, rfl, ite2 (fun _ => k H (Same.refl H)) fun h => absurd (decide_eq_true rfl) h⟩
    | row1 hn ty kk =>
      refine ⟨_, rfl, rfl, _, rfl, ite2 (fun h0 => absurd h0 (n30 hn)) fun _ => ?_⟩
      exact ⟨_, rfl, _, _, _, _, false, rfl, .ty _, ty, kk, _, rfl, iteT (k H (Same.refl H))⟩
    | row2 hn ht l =>
      rename_i a xs
      refine ⟨_, rfl, rfl, _, rfl, ite2 (fun h0 => absurd h0 (n30 hn)) fun _ => ?_⟩
      refine ⟨_, rfl, _, _, _, _, true, rfl, .ty _, isT ht, kit_ty (by decide +kernel), _, rfl, ?_⟩
      refine ⟨_, rfl, a, _, rfl, .inr (SqT.of ht), _, _, rfl, rfl, _, rfl, ite2 (fun _ => k H (Same.refl H)) (fun h0 => ?_)⟩
      exact absurd (decide_eq_true (by omega)) h0
    | row3 hn ht l l2 wd no =>
      rename_i a xs bs
      refine ⟨_, rfl, rfl, _, rfl, ite2 (fun h0 => absurd h0 (n30 hn)) fun _ => ?_⟩
      refine ⟨_, rfl, _, _, _, _, true, rfl, .ty _, isT ht, kit_ty (by decide +kernel), _, rfl, ?_⟩
      refine ⟨_, rfl, a, _, rfl, .inr (SqT.of ht), _, _, rfl, rfl, _, rfl, ite2 (fun h0 => ?_) (fun _ => ?_)⟩
      · have := of_decide_eq_true h0
        omega
      refine ⟨_, rfl, a, xs, bs, rfl, ht, wd, l2, fun H1 s1 => ⟨_, rfl, ?_⟩⟩
      rw [no]
      exact iteT (k H1 s1)
    | name hn ht l l2 vw hx =>
      rename_i a x bs
      refine ⟨_, rfl, rfl, _, rfl, ite2 (fun h0 => absurd h0 (n30 hn)) fun _ => ?_⟩
      refine ⟨_, rfl, _, _, _, _, true, rfl, .ty _, isT ht, kit_ty (by decide +kernel), _, rfl, ?_⟩
      refine ⟨_, rfl, a, _, rfl, .inr (SqT.of ht), _, _, rfl, rfl, _, rfl, ite2 (fun h0 => ?_) (fun _ => ?_)⟩
      · have := of_decide_eq_true h0
        have h1 := List.length_pos_iff.mpr l
        rw [List.length_map, List.length_cons] at this
        omega
      refine ⟨_, rfl, a, _, _, rfl, ht, .vw vw, ?_, fun H1 s1 => ⟨_, rfl, ?_⟩⟩
      · rw [List.length_map, List.length_cons]; omega
      have e : (((x :: bs).map fun _ => true).all id) = true := by simp
      rw [e]
      refine iteF ⟨_, rfl, a, _, _, _, rfl, rfl, SqT.of (s1 a _ ht), atI_nat (j := 0) rfl, _, rfl, d, _, rfl, DGet.k (k := Sum.inr x) (s1 d _ hd), _, rfl, ?_⟩
      rw [TB.some_iff, decide_eq_true hx]
      exact iteT (k H1 s1)
    | base hn ht l l2 vw hx hb =>
      rename_i a x bs
      refine ⟨_, rfl, rfl, _, rfl, ite2 (fun h0 => absurd h0 (n30 hn)) fun _ => ?_⟩
      refine ⟨_, rfl, _, _, _, _, true, rfl, .ty _, isT ht, kit_ty (by decide +kernel), _, rfl, ?_⟩
      refine ⟨_, rfl, a, _, rfl, .inr (SqT.of ht), _, _, rfl, rfl, _, rfl, ite2 (fun h0 => ?_) (fun _ => ?_)⟩
      · have := of_decide_eq_true h0
        have h1 := List.length_pos_iff.mpr l
        rw [List.length_map, List.length_cons] at this
        omega
      refine ⟨_, rfl, a, _, _, rfl, ht, .vw vw, ?_, fun H1 s1 => ⟨_, rfl, ?_⟩⟩
      · rw [List.length_map, List.length_cons]; omega
      have e : (((x :: bs).map fun _ => true).all id) = true := by simp
      rw [e]
      refine iteF ⟨_, rfl, a, _, _, _, rfl, rfl, SqT.of (s1 a _ ht), atI_nat (j := 0) rfl, _, rfl, d, _, rfl, DGet.k (k := Sum.inr x) (s1 d _ hd), _, rfl, ?_⟩
      rw [TB.some_iff, decide_eq_false hx]
      refine iteF ⟨_, rfl, _, rfl, a, _, rfl, s1 a _ ht, fun bp H2 s2 hbp => ?_⟩
      rw [cut1'] at hbp
      have s12 := s1.trans s2
      refine ⟨_, rfl, bp, rfl, ⟨_, SqT.of hbp⟩, fun D hD => ?_⟩
      refine lc_tup (K := K) (a := bp) (xs := bs.map V.str) (fun i Hc => Hc D = some (.lst (((bs.take i).map fun b => decide (b ∈ keys tb)).map V.bl)) ∧ Same H2 Hc) ?_ ?_ ?_ ?_
      · exact ⟨upd_same, (Same.refl H2).put hD⟩
      · rintro i Hc _ ⟨_, sm⟩
        exact SqT.of (sm bp _ hbp)
      · rintro i y Hc hy ⟨h1, sm⟩
        have hil : i < bs.length := by
          have := (List.getElem?_eq_some_iff.mp hy).1
          rwa [List.length_map] at this
        have hbi : bs[i]? = some bs[i] := List.getElem?_eq_getElem hil
        rw [List.getElem?_map, hbi] at hy
        have et : bs.take (i + 1) = bs.take i ++ [bs[i]] := by rw [List.take_add_one, hbi]; rfl
        generalize bs[i] = b at hbi hy et
        cases hy
        refine ⟨rfl, _, rfl, _, rfl, d, _, rfl, DGet.k (k := Sum.inr b) (sm d _ (s12 d _ hd)), _, h1, ?_, ?_, sm.put hD⟩
        · rw [List.length_map, List.length_map, List.length_take]; show _ < 16777216; omega
        · rw [upd_same, et, List.map_append, List.map_append, TB.some_iff]
          rfl
      · rintro Hc ⟨h1, sm⟩
        rw [List.length_map, List.take_length] at h1
        refine ⟨D, _, rfl, SqL.of h1, _, rfl, ?_⟩
        by_cases ha : (bs.map fun b => decide (b ∈ keys tb)).all id = true
        · rw [ha]
          have nd : ¬ bs.Nodup := by
            rcases hb with ⟨b, h1b, h2b⟩ | hb
            · rw [List.all_map, List.all_eq_true] at ha
              have := ha b h1b
              exact absurd (of_decide_eq_true this) h2b
            · exact hb
          refine iteF ⟨_, rfl, bp, bs, rfl, sm bp _ hbp, by omega, _, rfl, ?_⟩
          rw [decide_eq_false nd]
          exact iteT (k Hc (s12.trans sm))
        · rw [Bool.eq_false_iff.mpr ha]
          exact iteT (k Hc (s12.trans sm))
end
end K2
end
section
set_option Elab.async false
set_option maxRecDepth 100000
set_option linter.all false
namespace K2
open PySem L2
theorem _root_.L2.FnOk.or {P : Program} {w : World} {K : PySem.W.Frag} {mg : Str → Option Value} {base : Heap} {CX : CXT} {k : Nat} {f : Addr} {fd : FuncData} {ps : List Str} {sp sp' : Sp} (F : FnOk P w K mg base CX k f fd ps sp) (G : FnOk P w K mg base CX k f fd ps sp') :
    FnOk P w K mg base CX k f fd ps (fun vs H Q E => sp vs H Q E ∨ sp' vs H Q E) :=
  ⟨fun vs H Q E q => q.elim (F.len vs H Q E) (G.len vs H Q E), fun A outer s H args us vs Q E hr he hb hv hs => hs.elim (F.run A outer s H args us vs Q E hr he hb hv) (G.run A outer s H args us vs Q E hr he hb hv)⟩
theorem WdAll.same {K : PySem.W.Frag} {H H' : Hp} {xs : List V} {bs : List Bool} (h : WdAll K H xs bs) (s : Same H H') : WdAll K H' xs bs := ⟨h.1, fun i x b h1 h2 => (h.2 i x b h1 h2).same s⟩
theorem FaultV.same {K : PySem.W.Frag} {H H' : Hp} {nm : List Str} {v : V} {n : Nat} {r : Str} (h : FaultV K H nm v n r) (s : Same H H') : FaultV K H' nm v n r := by
  cases h with
  | many v => exact .many v
  | row1 hn ty k => exact .row1 hn (ty.same s) k
  | row2 hn h l => exact .row2 hn (s _ _ h) l
  | row3 hn h l l2 wd no => exact .row3 hn (s _ _ h) l l2 (wd.same s) no
  | name hn h l l2 vw hx => exact .name hn (s _ _ h) l l2 vw hx
  | base hn h l l2 vw hx hb => exact .base hn (s _ _ h) l l2 vw hx hb
def ncF (r : Str) (n : Nat) : List (Str × V) := [("place", .int n), ("reason", .str r)]
/-- rows of which the first with a fault stands behind good ones -/
structure Bad (K : PySem.W.Frag) (H : Hp) (xs : List V) (rs : List Row) (r : Str) : Prop where
  g : Good rs
  l : rs.length ≤ 30
  ex : ∃ (ts : List Addr) (v : V) (more : List V), xs = ts.map V.ref ++ v :: more ∧ RowsAt H ts rs ∧ FaultV K H (keys (ups rs)) v rs.length r
theorem Bad.same {K : PySem.W.Frag} {H H' : Hp} {xs : List V} {rs : List Row} {r : Str} (h : Bad K H xs rs r) (s : Same H H') : Bad K H' xs rs r := by
  obtain ⟨ts, v, more, e, R, F⟩ := h.ex
  exact ⟨h.g, h.l, ts, v, more, e, R.mono fun b r e => s b _ e, F.same s⟩
def spInitX (K : PySem.W.Frag) (C CN : Addr) : Sp := fun vs H Q E => ∃ (p dx rt : Addr) (xs : List V) (rs : List Row) (r : Str), vs = [.ref p, .ref rt] ∧ H p = some (.ins C dx []) ∧ H rt = some (.tup xs) ∧ Bad K H xs rs r ∧
  ∀ (d : Addr) (H' : Hp), Same H H' → H' d = some (.xd (ncF r rs.length)) → E (.ref CN) (some d) H'
section
variable {P : Program} {w : World} {K : PySem.W.Frag} {mg : Str → Option Value} {base : Heap}
theorem ok_initX {f C fF fL CN fI : Addr} {fd fdF fdL fdI : FuncData} (F : Fun K "__init__" "Classes.__init__" sInit f fd) (X : Txt K mg C) (T : Bi mg) (FA : Df K mg "_fault" sFault fF fdF ["row", "k", "lines"]) (GF1 : FnOk P w K mg base CX0 3 fF fdF ["row", "k", "lines"] spFault) (GF2 : FnOk P w K mg base CX0 3 fF fdF ["row", "k", "lines"] (spFaultX K))
    (LI : Df K mg "_line" sLine fL fdL ["row", "lines"]) (GL : FnOk P w K mg base CX0 1 fL fdL ["row", "lines"] spLine)
    (M : NC K mg CN fI) (GI : FnOk P w K mg base CX0 1 fI fdI ["self", "reason", "place"] (spNCI CN)) (bI : Binds K fdI ["self", "reason", "place"] []) :
    FnR P w K mg base (L2.CX P w) 4 f (fun vs H Q E => ∃ ws rest, vs = ws ++ rest ∧ ws.length = 1 ∧ rest.length ≤ sizeLine ∧ ∀ p, H p = none → spInitX K C CN (ws ++ [V.ref p]) (upd H p (.tup rest)) Q E) := by
  have GF := GF1.or GF2
  obtain ⟨oc, od, kV, doc, pm, an, cdv, ct, osl, rfl, lk, hcd⟩ := F.ex
  refine StX.fn_star (ps := ["self"]) (pv := "rows") lk hcd scInit StX.cxUp (init_bind kV doc pm an cdv ct) fun A outer s H vs Q E hr h => ?_
  obtain ⟨p, dx, rt, xs, rs, r, rfl, hp, ht, BD, kE⟩ := h
  obtain ⟨g, h30, ts, bad, more, rfl, R, FV⟩ := BD
  have hr2 : Room 3 _ := hr
  have hr22 : Room 2 _ := hr.mono (by decide)
  have hr0 : Room 1 _ := hr.mono (by decide)
  have hu := hu_of hr
  refine ⟨_, (pss_cons (ps_set (i := 2) scInit.nd rfl (Or.inl rfl) (pe_disp (pps_cons pe_str (pe_disp (pps_cons pe_str pe_bl pps_nil) (by rfl) (by rfl) (fun z => by cases z) (by decide)) (pps_cons pe_str (pe_disp (pps_cons pe_str pe_bl (pps_cons pe_str pe_bl pps_nil)) (by rfl) (by rfl) (fun z => by cases z) (by decide)) pps_nil)) (by rfl) (by rfl) (fun z => by cases z) (by decide)))
      (pss_cons (ps_for (passes_of rfl) rfl (pi_enumT (by rfl) T.enumerate (pa_cons (pv 1) pa_nil)) (pg_tup rfl (pgs_cons (pg_name (i := 3) scInit.nd rfl (Or.inl rfl)) (pgs_cons (pg_name (i := 4) scInit.nd rfl (Or.inl rfl)) pgs_nil)))
      (pss_cons (ps_set (i := 5) scInit.nd rfl (Or.inl rfl) (pe_call GF hr2 (by rfl) FA.m FA.F.kp FA.b .nil pass0 (pa_cons (pv 4) (pa_cons (pv 3) (pa_cons (pv 2) pa_nil)))))
        (pss_cons (ps_if (pt_cmpR op_notN (pv 5) pe_non (nomark _))
        (pss_one (ps_raise rfl (takes_of rfl rfl rfl rfl) (pmk_oex M.oex M.iC M.tI GI hr22 bI .nil pass0 (by rfl) M.gC (pa_cons (pv 5) (pa_cons (pv 3) pa_nil)))))
        pss_nil)
        (pss_one (ps_dput hu (pv 2) (pe_ix ix_tup (pv 4) pe_int (fun _ _ => rfl)) (pe_call GL hr0 (by rfl) LI.m LI.F.kp LI.b .nil pass0 (pa_cons (pv 4) (pa_cons (pv 2) pa_nil))) rfl)))))
      (pss_cons (ps_fld (pv 0) (pv 1) rfl)
      (pss_cons (ps_fld (pv 0) (pe_callTy call_tuple_of (by rfl) T.tuple (by decide +kernel) (pa_cons (pe_callTy (call_list_dK rfl) (by rfl) T.list (by decide +kernel) (pa_cons (pv 2) pa_nil)) pa_nil)) rfl)
      (pss_one (ps_fld (pv 0) (pv 2) rfl)))))), ?_⟩
  refine fun d hd d1 hd1 => ⟨upd_same, [((Sum.inr (Str.ofString "error") : Key), V.bl true)], rfl, (by show 1 ≤ 15; decide), fun d2 hd2 => ?_⟩
  rw [merge1, upd_upd] at hd2 ⊢
  refine ⟨upd_same, [((Sum.inr (Str.ofString "vacant") : Key), V.bl true), ((Sum.inr (Str.ofString "error") : Key), V.bl true)], rfl, (by show 2 ≤ 15; decide), ?_⟩
  rw [merge2', upd_upd]
  have n01 : d ≠ d1 := fun e => by rw [← e, upd_same] at hd1; cases hd1
  have n12 : d1 ≠ d2 := fun e => by rw [← e, upd_same] at hd2; cases hd2
  have n02 : d ≠ d2 := fun e => by rw [← e, upd_ne n01, upd_same] at hd2; cases hd2
  have hd1H : H d1 = none := by rw [upd_ne n01.symm] at hd1; exact hd1
  have hd2H : H d2 = none := by rw [upd_ne n12.symm, upd_ne n02.symm] at hd2; exact hd2
  refine ⟨by rw [upd_ne n02, upd_ne n01, upd_same], [((Sum.inr (Str.ofString "error") : Key), V.ref d1), ((Sum.inr (Str.ofString "vacant") : Key), V.ref d2)], rfl, (by show 2 ≤ 15; decide), ?_⟩
  rw [merge2]
  have facts : ∀ H0, H0 = upd (upd (upd (upd H d (.dK [])) d1 (.dK [((Sum.inr (Str.ofString "error") : Key), V.bl true)])) d2 (.dK [((Sum.inr (Str.ofString "vacant") : Key), V.bl true), ((Sum.inr (Str.ofString "error") : Key), V.bl true)])) d
      (.dK [((Sum.inr (Str.ofString "error") : Key), V.ref d1), ((Sum.inr (Str.ofString "vacant") : Key), V.ref d2)]) → Same H H0 ∧ H0 d = some (.dK [((Sum.inr (Str.ofString "error") : Key), V.ref d1), ((Sum.inr (Str.ofString "vacant") : Key), V.ref d2)]) ∧
      Tab fD H0 [((Sum.inr (Str.ofString "error") : Key), V.ref d1), ((Sum.inr (Str.ofString "vacant") : Key), V.ref d2)] t0 := fun H0 e => by
    subst e
    refine ⟨((((Same.refl H).put hd).put hd1H).put hd2H).put hd, upd_same, .cons ?_ (.cons ?_ .nil)⟩
    · rw [upd_ne n01.symm, upd_ne n12, upd_same]
      rfl
    · rw [upd_ne n02.symm, upd_same]
      rfl
  generalize hH0 : upd (upd (upd (upd H d (.dK [])) d1 (.dK [((Sum.inr (Str.ofString "error") : Key), V.bl true)])) d2 (.dK [((Sum.inr (Str.ofString "vacant") : Key), V.bl true), ((Sum.inr (Str.ofString "error") : Key), V.bl true)])) d
      (.dK [((Sum.inr (Str.ofString "error") : Key), V.ref d1), ((Sum.inr (Str.ofString "vacant") : Key), V.ref d2)]) = H0
  obtain ⟨sm0, hd0, T0⟩ := facts H0 hH0.symm
  have tl : (ts.map V.ref).length = rs.length := by rw [List.length_map, R.1]
  refine ⟨_, rfl, rt, _, rfl, sm0 rt _ ht, for_it (walk_enumT rt (ts.map V.ref ++ bad :: more)) (fun i σ Hc => i ≤ rs.length ∧ ∃ (kvs : List (Key × V)) (v3 v4 v5 : Option V), σ = [some (.ref p), some (.ref rt), some (.ref d), v3, v4, v5] ∧ Hc d = some (.dK kvs) ∧ Tab fD Hc kvs (ups (rs.take i)) ∧ Same H Hc ∧ ∀ y a, (y, V.ref a) ∈ kvs → a ≠ d) ?_ ?_ ?_ ?_⟩
  · refine ⟨Nat.zero_le _, _, _, _, _, rfl, hd0, T0, sm0, fun y a hya => ?_⟩
    simp only [List.mem_cons, List.not_mem_nil, or_false, Prod.mk.injEq, V.ref.injEq] at hya
    rcases hya with ⟨_, rfl⟩ | ⟨_, rfl⟩
    · exact n01.symm
    · exact n02.symm
  · rintro i σ Hc _ ⟨_, kvs, v3, v4, v5, rfl, _, _, sm, _⟩
    exact sm rt _ ht
  · rintro i y σ Hc Hy _ ⟨hin, kvs, v3, v4, v5, rfl, hD, TB, sm, hav⟩ ⟨T9, x, rfl, hT9, rfl, hx⟩
    by_cases hi : i < rs.length
    · have hti : ts[i]? = some (ts[i]'(by rw [R.1]; exact hi)) := List.getElem?_eq_getElem _
      rw [List.getElem?_append_left (by rw [tl]; exact hi), List.getElem?_map, hti] at hx
      generalize ts[i]'(by rw [R.1]; exact hi) = t at hti hx
      cases hx
      have hri : rs[i]? = some rs[i] := List.getElem?_eq_getElem hi
      have htH := sm t _ (R.2 i t _ hti hri)
      have RO := g i _ hri
      have TO := tok_ups g i (Nat.le_of_lt hi)
      have hks := keys_ups_take rs i
      have hus := ups_succ hri
      have hkl := knownAt_len (Nat.le_of_lt hi)
      have hvw := g.vw_known i
      generalize rs[i] = r at hri htH RO hus
      rw [← hks] at RO hkl hvw
      generalize ups (rs.take i) = tb at TB TO hks hus RO hkl hvw
      have htl2 : tb.length = (keys tb).length := by simp [keys]
      have s9 : Same Hc (upd Hc T9 (.tup [V.int (i : Nat), V.ref t])) := (Same.refl Hc).put hT9
      refine ⟨T9, _, rfl, SqT.of upd_same, rfl, _, _, rfl, _, _, rfl, rfl, ?_⟩
      have TB9 : ∀ {H2 : Hp}, Same Hc H2 → Tab fD H2 kvs tb := fun s => TB.mono fun a us e => s a _ e
      refine ⟨_, rfl, _, rfl, _, rfl, .inl ⟨t, d, i, r, kvs, tb, rfl, by omega, s9 t _ htH, s9 d _ hD, TB9 s9, TO, RO, fun x hx => hvw x (RO.sub x hx), by omega, fun H2 s2 => ?_⟩⟩
      refine ⟨_, rfl, rfl, _, rfl, iteNS rfl ?_⟩
      have s92 := s9.trans s2
      refine ⟨_, rfl, _, rfl, t, d, r, kvs, tb, rfl, s92 t _ htH, s92 d _ hD, TB9 s92, TO, RO, by omega, fun m H3 hmf hm s3 => ?_⟩
      have s93 := s92.trans s3
      have hD3 := s93 d _ hD
      have ht3 := s93 t _ htH
      obtain ⟨x, bs⟩ := r
      unfold rowO at ht3
      refine ⟨_, rfl, _, rfl, t, _, _, _, rfl, rfl, SqT.of ht3, atI_nat (j := 0) rfl, d, _, rfl, DPut.k (k := Sum.inr x) hD3 ?_, ?_⟩
      · rw [TB.len, htl2]; show _ < 16777216; omega
      rw [putK_new _ (TB.none RO.new)]
      have hmd : m ≠ d := (ne_of_none (s92 d _ hD) hmf).symm
      refine ⟨by omega, _, _, _, _, rfl, upd_same, ?_, (sm.trans s93).put hd, fun y a hya => ?_⟩
      · rw [hus]
        refine Tab.snoc ((TB9 s93).monoM fun a us ⟨y, hy⟩ e => by rw [upd_ne (hav y a hy)]; exact e) ?_
        rw [upd_ne hmd]
        exact hm
      · rcases List.mem_append.mp hya with hya | hya
        · exact hav y a hya
        · simp only [List.mem_cons, List.not_mem_nil, or_false, Prod.mk.injEq, V.ref.injEq] at hya
          rw [hya.2]
          exact hmd
    · obtain rfl : i = rs.length := by omega
      rw [List.getElem?_append_right (by omega), tl, Nat.sub_self] at hx
      cases hx
      rw [List.take_length] at TB
      have s9 : Same Hc (upd Hc T9 (.tup [V.int ((rs.length : Nat) : Int), bad])) := (Same.refl Hc).put hT9
      refine ⟨T9, _, rfl, SqT.of upd_same, rfl, _, _, rfl, _, _, rfl, rfl, ?_⟩
      refine ⟨_, rfl, _, rfl, _, rfl, .inr ⟨bad, d, rs.length, r, kvs, ups rs, rfl, s9 d _ hD, TB.mono fun a us e => s9 a _ e, FV.same (sm.trans s9), fun H2 s2 => ?_⟩⟩
      have s92 := sm.trans (s9.trans s2)
      refine ⟨_, rfl, rfl, _, rfl, ite2 (fun _ => ?_) fun h => absurd (by rw [decide_eq_false (by intro e; cases e)]; rfl) h⟩
      refine ⟨_, rfl, _, rfl, (by show 2 ≤ 1000; decide), fun a ha => ⟨a, _, _, rfl, upd_same, fun d3 H' hd3 hne e1 e2 k => ?_⟩⟩
      rw [upd_ne hne] at hd3
      refine ⟨rfl, d3, _, e1, e2, hd3, kE d3 _ (fun b o hb => ?_) upd_same⟩
      have hb2 := s92 b _ hb
      have n1 := ne_of_none hb2 hd3
      have n2 := ne_of_none hb2 ha
      rw [upd_ne n1, del_ne n2]
      exact k b o (by rw [upd_ne n2]; exact hb2) n2
  · rintro σ Hc ⟨hle, _⟩
    rw [List.length_append, tl, List.length_cons] at hle
    omega
end
end K2
end
section
set_option Elab.async false
set_option maxRecDepth 100000
set_option linter.all false
namespace K2
open PySem L2
def spInitXR (K : PySem.W.Frag) (C CN : Addr) : Sp := fun vs H Q E => ∃ ws rest, vs = ws ++ rest ∧ ws.length = 1 ∧ rest.length ≤ sizeLine ∧ ∀ p, H p = none → spInitX K C CN (ws ++ [V.ref p]) (upd H p (.tup rest)) Q E
theorem initRX {K : PySem.W.Frag} {C CN : Addr} {H : Hp} {xs : List V} {rs : List Row} {r : Str} {Q : VK} {E : XK} (B : Bad K H xs rs r) (l : xs.length ≤ 1000) (k : ∀ (d : Addr) (H' : Hp), Same H H' → H' d = some (.xd (ncF r rs.length)) → E (.ref CN) (some d) H') :
    ∀ x dx, H x = none → H dx = none → dx ≠ x → spInitXR K C CN (V.ref x :: xs) (upd (upd H dx (.own x)) x (.ins C dx [])) (fun v H2 => v = .non ∧ Q (.ref x) H2) E := by
  intro x dx nx ndx ne
  refine ⟨[V.ref x], _, rfl, rfl, ?_, fun pt hpt => ?_⟩
  · show _ ≤ 16777216; omega
  have s1 : Same H (upd (upd H dx (.own x)) x (.ins C dx [])) := ((Same.refl H).put ndx).put nx
  have s2 : Same H (upd (upd (upd H dx (.own x)) x (.ins C dx [])) pt (.tup xs)) := s1.put (s1.free hpt)
  exact ⟨x, dx, pt, xs, rs, r, rfl, by rw [upd_ne (ne_of_none upd_same hpt), upd_same], upd_same, B.same s2, fun d H' s e => k d H' (s2.trans s) e⟩
/-- the first bad one of some rows behind those that stand -/
structure Bad2 (K : PySem.W.Frag) (H : Hp) (xs : List V) (rs qs : List Row) (r : Str) : Prop where
  g : Good (rs ++ qs)
  l : (rs ++ qs).length ≤ 30
  ex : ∃ (ts : List Addr) (v : V) (more : List V), xs = ts.map V.ref ++ v :: more ∧ RowsAt H ts qs ∧ FaultV K H (keys (ups (rs ++ qs))) v (rs ++ qs).length r
theorem Bad2.same {K : PySem.W.Frag} {H H' : Hp} {xs : List V} {rs qs : List Row} {r : Str} (h : Bad2 K H xs rs qs r) (s : Same H H') : Bad2 K H' xs rs qs r := by
  obtain ⟨ts, v, more, e, R, F⟩ := h.ex
  exact ⟨h.g, h.l, ts, v, more, e, R.mono fun b r e => s b _ e, F.same s⟩
def spWRX (K : PySem.W.Frag) (C CN : Addr) : Sp := fun vs H Q E => ∃ (p t : Addr) (rs qs : List Row) (xs : List V) (r : Str), vs = [.ref p, .ref t] ∧ ClsW C H p rs ∧ H t = some (.tup xs) ∧ xs.length ≤ 500 ∧ Bad2 K H xs rs qs r ∧
  ∀ (d : Addr) (H' : Hp), Same H H' → H' d = some (.xd (ncF r (rs ++ qs).length)) → E (.ref CN) (some d) H'
def spWRXr (K : PySem.W.Frag) (C CN : Addr) : Sp := fun vs H Q E => ∃ ws rest, vs = ws ++ rest ∧ ws.length = 1 ∧ rest.length ≤ sizeLine ∧ ∀ p, H p = none → spWRX K C CN (ws ++ [V.ref p]) (upd H p (.tup rest)) Q E
section
variable {P : Program} {w : World} {K : PySem.W.Frag} {mg : Str → Option Value} {base : Heap}
theorem ok_wrX {f C CN fI : Addr} {fd : FuncData} (F : Fun K "with_rows" "Classes.with_rows" sWR f fd) (Y : Txt K mg C) (M : Mk K C fI) (GI : FnR P w K mg base (L2.CX P w) 4 fI (spInitXR K C CN)) : FnR P w K mg base (L2.CX P w) 6 f (spWRXr K C CN) := by
  obtain ⟨oc, od, kV, doc, pm, an, cdv, ct, osl, rfl, lk, hcd⟩ := F.ex
  refine StX.fn_star (ps := ["self"]) (pv := "rows") lk hcd scWR StX.cxUp (wr_bind kV doc pm an cdv ct) fun A outer s H vs Q E hr h => ?_
  obtain ⟨p, t, rs, qs, xs, r, rfl, cw, ht, hl, B, k⟩ := h
  refine ⟨_, pss_cons (ps_set (i := 2) scWR.nd rfl (Or.inl rfl) (pe_op op_cat2 (pe_fld (pv 0) rfl) (pv 1))) (pss_one (ps_ret (pe_makeSG M GI hr (by rfl) Y.mgC (passes_call (takes_of rfl rfl rfl rfl) fun _ _ _ _ h => h) (pv 2)))), ?_⟩
  obtain ⟨dx, r1, n, l, kvs, ts1, h1, _, _, _, h5, h6⟩ := cw
  have hlen := B.l
  rw [List.length_append] at hlen
  refine ⟨_, rfl, p, C, dx, _, _, rfl, h1, Y.cl, Y.nR, flds_rows _ _ _, _, rfl, r1, t, _, _, rfl, rfl, h5, ht, ?_, fun b H1 s1 hb => ?_⟩
  · rw [List.length_map, h6.1]; show _ ≤ 16777216; omega
  refine ⟨_, rfl, b, _, rfl, .inl (SqT.of hb), ?_⟩
  obtain ⟨ts, v, more, rfl, R, FV⟩ := B.ex
  refine initRX ⟨B.g, B.l, ts1 ++ ts, v, more, by rw [List.map_append, List.append_assoc], (h6.app R).mono fun q r e => s1 q _ e, FV.same s1⟩ ?_ fun d H' s e => k d H' (s1.trans s) e
  rw [List.length_append, List.length_map, h6.1]
  omega
def spMadeX (K : PySem.W.Frag) (C CN : Addr) : Sp := fun vs H Q E => ∃ (l : Addr) (xs : List V) (rs : List Row) (r : Str), vs = [.ref C, .ref l] ∧ H l = some (.lst xs) ∧ xs.length ≤ 500 ∧ Bad K H xs rs r ∧
  ∀ (d : Addr) (H' : Hp), Same H H' → H' d = some (.xd (ncF r rs.length)) → E (.ref CN) (some d) H'
theorem ok_madeX {f fI C CN : Addr} {fd : FuncData} (F : Fun K "made" "Classes.made" sMade f fd) (M : Mk K C fI) (GI : FnR P w K mg base (L2.CX P w) 4 fI (spInitXR K C CN)) : FnOk P w K mg base (L2.CX P w) 6 f fd ["cls", "rows"] (spMadeX K C CN) := by
  refine F.okX scMade (fun vs H Q E h => ?_) (fun cdv A outer s H vs Q E hr h => ?_)
  · obtain ⟨l, xs, rs, r, rfl, _⟩ := h
    rfl
  · obtain ⟨l, xs, rs, r, rfl, hl, hx, B, k⟩ := h
    refine ⟨_, pss_one (ps_ret (pe_makeL (i := 0) M GI hr rfl (Or.inl rfl) (passes_call (takes_of rfl rfl rfl rfl) fun _ _ _ _ h => h) (pv 1))), ?_⟩
    exact ⟨rfl, _, rfl, l, _, rfl, .inr (SqL.of hl), initRX B (by omega) k⟩
end
end K2
end
section
set_option Elab.async false
set_option maxRecDepth 100000
set_option linter.all false
namespace K2
open PySem L2
abbrev sLW : Stmt := top 38
abbrev nLW : List Str := ["_law_thing", "_law_sign"]
def lets : Str := Str.ofString "abcdefghijklmnopqrstuvwxyz"
theorem lets_iff : ∀ c, c ∈ lets.cps.toList ↔ 97 ≤ c ∧ c ≤ 122 := by
  have h1 : ∀ c ∈ lets.cps.toList, 97 ≤ c ∧ c ≤ 122 := by decide +kernel
  have h2 : ∀ k, k < 26 → 97 + k ∈ lets.cps.toList := by decide +kernel
  intro c
  refine ⟨h1 c, fun h => ?_⟩
  have := h2 (c - 97) (by omega)
  rwa [show 97 + (c - 97) = c by omega] at this
theorem ascii_low : ∀ c, c < 128 → Unicode.isAlpha c = true → Unicode.isUpper c = false → 97 ≤ c ∧ c ≤ 122 := by decide +kernel
theorem isW_vw {x : Str} (h : isW x = true) : VW x := by
  unfold isW at h
  simp only [Bool.and_eq_true, Bool.not_eq_true', decide_eq_false_iff_not] at h
  obtain ⟨h8, h1, h2, h3, h4⟩ := h
  unfold Txt.isascii at h1
  unfold Txt.isalpha at h2
  unfold Txt.islower at h3
  rw [← Array.all_toList, List.all_eq_true] at h1
  rw [Bool.and_eq_true, ← Array.all_toList, List.all_eq_true] at h2
  rw [Bool.and_eq_true, Bool.not_eq_true', ← Array.any_toList, ← Array.any_toList, List.any_eq_false] at h3
  refine ⟨fun c hc => ?_, ?_, ?_, h4⟩
  · have a1 := h1 c hc
    have a2 := h2.2 c hc
    have a3 := h3.2 c hc
    refine ascii_low c (by simpa using a1) a2 ?_
    cases hu : Unicode.isUpper c with
    | false => rfl
    | true => simp [hu] at a3
  · intro e
    have := of_decide_eq_true h2.1
    rw [len_codes, e] at this
    simp at this
  · rw [← len_codes]
    omega
def offS (x : Str) : List Nat := (codes x).filter fun c => !decide (c ∈ lets.cps.toList)
def lawW (x : Str) : Bool := decide ((1 : Int) ≤ (x.length : Int)) && (decide ((x.length : Int) ≤ 8) && (!decide (x ∈ resd) && (offS x).isEmpty))
theorem lawW_isW (x : Str) : lawW x = isW x := by
  rw [Bool.eq_iff_iff]
  unfold lawW
  simp only [Bool.and_eq_true, decide_eq_true_eq, Bool.not_eq_true', decide_eq_false_iff_not, List.isEmpty_iff]
  constructor
  · rintro ⟨h1, h8, h3, h4⟩
    refine vw_isW ⟨fun c hc => ?_, ?_, ?_, h3⟩
    · unfold offS at h4
      rw [List.filter_eq_nil_iff] at h4
      have := h4 c hc
      simp only [Bool.not_eq_true', Bool.not_eq_false, decide_eq_true_eq, decide_eq_false_iff_not, Decidable.not_not] at this
      exact (lets_iff c).mp this
    · intro e
      rw [len_codes, e] at h1
      simp at h1
    · rw [← len_codes]
      omega
  · intro h
    have v := isW_vw h
    have hl := List.length_pos_iff.mpr v.ne
    have h8 := v.le
    rw [← len_codes] at hl h8
    refine ⟨by omega, by omega, v.nr, ?_⟩
    unfold offS
    rw [List.filter_eq_nil_iff]
    intro c hc
    have := (lets_iff c).mpr (v.low c hc)
    simp [this]
theorem cut_barred : cutV (barred.map V.str) none (some (-2)) = resd.map V.str := by decide +kernel
def spLW (K : PySem.W.Frag) : Sp := fun vs H Q _ => ∃ (x : V) (b : Bool), vs = [x] ∧ WdV K H x b ∧ ∀ H', Same H H' → Q (.bl b) H'
section
variable {P : Program} {w : World} {K : PySem.W.Frag} {mg : Str → Option Value} {base : Heap}
theorem scLW : FnScope nLW ["_law_thing"] (defScope sLW) := ⟨rfl, rfl, rfl, by decide +kernel, rfl, by decide +kernel, by decide +kernel⟩
theorem ok_lw {f fB : Addr} {fd fdB : FuncData} (F : Fun K "_law_is_word" "_law_is_word" sLW f fd) (T : Bi mg) (BA : Df K mg "_law_barred" sBarred fB fdB []) (GB : FnOk P w K mg base CX0 1 fB fdB [] spBarred) : FnOk P w K mg base CX0 2 f fd ["_law_thing"] (spLW K) := by
  refine F.ok scLW (fun vs H Q E h => ?_) (fun cdv A outer s H vs Q E hr h => ?_)
  · obtain ⟨x, b, rfl, _⟩ := h
    rfl
  · obtain ⟨x, b, rfl, hx, k⟩ := h
    have hr1 : Room 1 _ := hr
    have hu := hu_of hr
    refine ⟨_, (pss_cons (ps_if (PW.pt (pw_or (pt_not (pt_val (pe_callB call_isi (by rfl) T.isinstance (by decide +kernel) (pa_cons (pv 0) (pa_cons (pe_bltn (v := .ty "str") (by rfl) T.str (by decide +kernel) rfl) pa_nil)))))
        (pw_or (pt_not (pt_chain op_le op_le pe_int (pe_callB call_len_str (by rfl) T.len PySem.boot_len (pa_cons (pv 0) pa_nil)) pe_int))
        (pw_or1 (pt_cmpR op_in_seq (pv 0) (pe_slice sl_list (pe_call0 GB hr1 (by rfl) BA.m BA.F.kp BA.b .nil pass0) po_none (po_some (pe_un un_neg pe_int))) rfl))))) (pss_one (ps_ret pe_bl)) pss_nil)
      (pss_one (ps_ret (pe_cmpR (op_eqL0 (Nat.lt_of_succ_lt hu)) (pe_lc (own := [("_law_sign", 1)]) (g := gName 1) rfl scLW.nd (pi_str (pv 0)) (blkOk_by (N := nLW) (sc := defScope sLW) (by decide +kernel)) (fun _ _ _ _ _ => pg_name (i := 1) scLW.nd rfl (Or.inl rfl))
        (fun _ _ _ _ _ => pts_one (pt_cmpR op_notIn_sign (pv 1) pe_str rfl)) (fun _ _ _ _ _ => pv 1)) (pe_lst pa_nil) (nomark _))))), ?_⟩
    cases hx with
    | no ty kk => exact ⟨_, rfl, _, _, _, _, false, rfl, .ty _, ty, kk, _, rfl, iteT (k H (Same.refl H))⟩
    | str x hl =>
      rw [← lawW_isW] at k
      refine ⟨_, rfl, _, _, _, _, true, rfl, .ty _, .base (.str _), kit_ty (by decide +kernel), _, rfl, ?_⟩
      refine ⟨_, rfl, _, rfl, hl, _, _, rfl, rfl, _, rfl, ite2 (fun h1 => ?_) (fun h1 => ?_)⟩
      case refine_2 =>
        have e : lawW x = false := by
          unfold lawW
          rw [decide_eq_false (fun q => h1 (decide_eq_true q))]
          rfl
        rw [e] at k
        exact ⟨_, rfl, iteT (k H (Same.refl H))⟩
      have h1 := of_decide_eq_true h1
      refine ⟨_, _, rfl, rfl, _, rfl, ?_⟩
      by_cases h8 : (x.length : Int) ≤ 8
      case neg =>
        have e : lawW x = false := by
          unfold lawW
          rw [decide_eq_false h8, decide_eq_true h1]
          rfl
        rw [e] at k
        rw [decide_eq_false h8]
        exact iteT (k H (Same.refl H))
      rw [decide_eq_true h8]
      refine iteF ⟨_, rfl, rfl, fun lb hlb => ⟨2, rfl, _, rfl, lb, _, rfl, SqL.of upd_same, fun l2 hl2 => ?_⟩⟩
      have s1 : Same H (upd H lb (.lst (barred.map V.str))) := (Same.refl H).put hlb
      have s2 := s1.put (o := .lst (cutV (barred.map V.str) none (some (-2)))) (s1.free hl2)
      refine ⟨l2, _, rfl, .inl (SqL.of (by rw [upd_same, show cutV (barred.map V.str) none (some (-2)) = resd.map V.str from cut_barred])), rfl, flat_strs _, _, rfl, ?_⟩
      rw [if_neg Bool.false_ne_true, inV_strs]
      by_cases hr : x ∈ resd
      case pos =>
        have e : lawW x = false := by
          unfold lawW
          rw [decide_eq_true hr, decide_eq_true h8, decide_eq_true h1]
          rfl
        rw [e] at k
        rw [decide_eq_true hr]
        exact iteT (k _ s2)
      rw [decide_eq_false hr]
      have e : lawW x = (offS x).isEmpty := by
        unfold lawW
        rw [decide_eq_false hr, decide_eq_true h8, decide_eq_true h1]
        rfl
      rw [e] at k
      generalize upd (upd H lb (.lst (barred.map V.str))) l2 (.lst (cutV (barred.map V.str) none (some (-2)))) = H2 at s2 ⊢
      refine iteF ⟨_, rfl, _, rfl, fun D hD => ?_⟩
      refine lc_it walk_str (fun i Hc => Hc D = some (.lst ((((codes x).take i).filter fun c => !decide (c ∈ lets.cps.toList)).map fun c => V.str ⟨#[c]⟩)) ∧ Same H2 Hc) ?_ (fun _ _ _ _ => trivial) ?_ ?_
      · exact ⟨upd_same, (Same.refl H2).put hD⟩
      · rintro i y Hc _ hi ⟨g1, sm⟩ ⟨rfl, c, hc, rfl⟩
        have hc' : (codes x)[i]? = some c := by
          unfold codes
          rw [Array.getElem?_toList]
          exact hc
        have et : (codes x).take (i + 1) = (codes x).take i ++ [c] := by rw [List.take_add_one, hc']; rfl
        refine ⟨rfl, _, rfl, c, lets, rfl, rfl, _, rfl, ite2 (fun h => ⟨_, rfl, _, g1, ?_, ?_, sm.put hD⟩) (fun h => ⟨?_, sm⟩)⟩
        · rw [List.length_map]
          have := List.length_filter_le (fun c => !decide (c ∈ lets.cps.toList)) ((codes x).take i)
          rw [List.length_take, ← len_codes] at this
          show _ < 16777216
          omega
        · rw [upd_same, et, List.filter_append, List.filter_cons, if_pos h, List.map_append]
          rfl
        · rw [et, List.filter_append, List.filter_cons, if_neg h, List.filter_nil, List.append_nil]
          exact g1
      · rintro Hc ⟨g1, sm⟩
        have el : x.cps.size = (codes x).length := by unfold codes; rw [Array.length_toList]
        rw [el, List.take_length] at g1
        refine ⟨Nat.zero_le _, fun l3 hl3 => ?_⟩
        have s4 : Same Hc (upd Hc l3 (.lst [])) := (Same.refl Hc).put hl3
        refine ⟨D, l3, _, rfl, rfl, SqL.of (s4 _ _ g1), SqL.of upd_same, ?_⟩
        have ee : ((((codes x).filter fun c => !decide (c ∈ lets.cps.toList)).map fun c => V.str ⟨#[c]⟩)).isEmpty = (offS x).isEmpty := by
          unfold offS
          rw [List.isEmpty_map]
        rw [ee]
        exact k _ ((s2.trans sm).trans s4)
end
end K2
end
section
set_option Elab.async false
set_option maxRecDepth 100000
set_option linter.all false
namespace K2
open PySem L2
abbrev sOdd : Stmt := top 39
abbrev nOdd : List Str := ["_law_pen_here", "_law_some", "_law_barred_here", "_law_k"]
theorem call_isiK' {X : Cx} {K' : PySem.W.Frag} (hK : X.K = K') : CallR X (.builtin "isinstance") (rIsi K') := by
  subst hK
  exact call_isi
/-- a value that is no text, with its type -/
inductive Nos (H : Hp) : V → String → Prop where
  | non : Nos H .non "NoneType"
  | bl (b : Bool) : Nos H (.bl b) "bool"
  | int (i : Int) : Nos H (.int i) "int"
  | tup {a : Addr} {xs : List V} (h : H a = some (.tup xs)) : Nos H (.ref a) "tuple"
  | lst {a : Addr} {xs : List V} (h : H a = some (.lst xs)) : Nos H (.ref a) "list"
  | dK {a : Addr} {kvs : List (Key × V)} (h : H a = some (.dK kvs)) : Nos H (.ref a) "dict"
theorem Nos.keep {p : Addr} {H H' : Hp} {v : V} {t : String} (h : Nos H v t) (np : v ≠ .ref p) (k : Keep p H H') : Nos H' v t := by
  have ne : ∀ {a : Addr}, V.ref a ≠ .ref p → a ≠ p := fun h e => h (by rw [e])
  cases h with
  | non => exact .non
  | bl b => exact .bl b
  | int i => exact .int i
  | tup h => exact .tup (k _ _ h (ne np))
  | lst h => exact .lst (k _ _ h (ne np))
  | dK h => exact .dK (k _ _ h (ne np))
theorem Nos.ty {K : PySem.W.Frag} {H : Hp} {v : V} {t : String} (h : Nos H v t) : TyX K H v (.type t) := by
  cases h with
  | non => exact .base .non
  | bl b => exact .base (.bl b)
  | int i => exact .base (.int i)
  | tup h => exact .base (.tup h)
  | lst h => exact .base (.lst h)
  | dK h => exact .base (.dK h)
theorem Nos.kitS {K : PySem.W.Frag} {H : Hp} {v : V} {t : String} (h : Nos H v t) : PySem.W.kitOne K (.type t) (.type "str") = some false := by
  cases h <;> exact kit_ty (by decide +kernel)
theorem Nos.kitT {K : PySem.W.Frag} {H : Hp} {v : V} {t : String} (h : Nos H v t) (n : t ≠ "tuple") : PySem.W.kitOne K (.type t) (.type "tuple") = some false := by
  cases h
  case tup => exact absurd rfl n
  all_goals exact kit_ty (by decide +kernel)
/-- what may stand in a row -/
inductive It (H : Hp) (p : Addr) : V → Prop where
  | str (y : Str) (l : y.length ≤ sizeLine) : It H p (.str y)
  | no {v : V} {t : String} (h : Nos H v t) (np : v ≠ .ref p) : It H p v
theorem It.keep {p : Addr} {H H' : Hp} {v : V} (h : It H p v) (k : Keep p H H') : It H' p v := by
  cases h with
  | str y l => exact .str y l
  | no h np => exact .no (h.keep np k) np
theorem It.wd {K : PySem.W.Frag} {H : Hp} {p : Addr} {v : V} (h : It H p v) : ∃ b, WdV K H v b := by
  cases h with
  | str y l => exact ⟨_, .str y l⟩
  | no h np => exact ⟨_, .no h.ty h.kitS⟩
theorem Pen.tup_ne {H : Hp} {p c q : Addr} {ns : List Int} {n : Nat} {xs : List V} (h : Pen H p c ns n) (hq : H q = some (.tup xs)) : q ≠ p := fun e => by
  obtain ⟨a, l, g, _⟩ := h.pen
  rw [e, g] at hq
  cases hq
theorem Pen.dict_ne {H : Hp} {p c q : Addr} {ns : List Int} {n : Nat} {kvs : List (Key × V)} (h : Pen H p c ns n) (hq : H q = some (.dK kvs)) : q ≠ p := fun e => by
  obtain ⟨a, l, g, _⟩ := h.pen
  rw [e, g] at hq
  cases hq
theorem ref_ne {a p : Addr} (h : a ≠ p) : V.ref a ≠ .ref p := fun e => h (V.ref.inj e)
def spOdd : Sp := fun vs H Q _ => ∃ (p c : Addr) (ns : List Int) (n : Nat), vs = [.ref p] ∧ Pen H p c ns n ∧ n + 20 ≤ 100000 ∧ ∀ (v : V) (H' : Hp), It H' p v → Keep p H H' → Pen H' p c ns (n + 10) → Q v H'
section
variable {P : Program} {w : World} {K : PySem.W.Frag} {mg : Str → Option Value} {base : Heap}
theorem scOdd : FnScope nOdd ["_law_pen_here"] (defScope sOdd) := ⟨rfl, rfl, rfl, by decide +kernel, rfl, by decide +kernel, by decide +kernel⟩
theorem ok_odd {f fB fP : Addr} {fd fdB fdP : FuncData} (F : Fun K "_law_odd" "_law_odd" sOdd f fd) (T : Bi mg) (BA : Df K mg "_law_barred" sBarred fB fdB []) (GB : FnOk P w K mg base CX0 1 fB fdB [] spBarred)
    (PK : Df K mg "_law_pick" sPick fP fdP ["_law_pen_here", "_law_some"]) (GP : FnOk P w K mg base CX0 2 fP fdP ["_law_pen_here", "_law_some"] spPick) : FnOk P w K mg base CX0 3 f fd ["_law_pen_here"] spOdd := by
  refine F.ok scOdd (fun vs H Q E h => ?_) (fun cdv A outer s H vs Q E hr h => ?_)
  · obtain ⟨p, c, ns, n, rfl, _⟩ := h
    rfl
  · obtain ⟨p, c, ns, n, rfl, P0, hn, k⟩ := h
    have hr1 : Room 1 _ := hr.mono (by decide)
    have hr2 : Room 2 _ := hr
    have hu := hu_of hr
    refine ⟨_, (pss_cons (ps_set (i := 1) scOdd.nd rfl (Or.inl rfl) (pe_lst (pa_cons pe_non (pa_cons pe_bl (pa_cons pe_int (pa_cons pe_str (pa_cons pe_str (pa_cons pe_str (pa_cons pe_str (pa_cons pe_str (pa_cons pe_str (pa_cons (pe_tup (pa_cons pe_str pa_nil)) (pa_cons (pe_lst (pa_cons pe_str pa_nil)) (pa_cons pe_dnewK (pa_cons pe_str (pa_cons pe_str pa_nil))))))))))))))))
      (pss_cons (ps_set (i := 2) scOdd.nd rfl (Or.inr rfl) (pe_call0 GB hr1 (by rfl) BA.m BA.F.kp BA.b .nil pass0))
      (pss_cons (ps_set (i := 1) scOdd.nd rfl (Or.inl rfl) (pe_op op_cat (pv 1) (pe_lst (pa_cons pe_str (pa_cons pe_str (pa_cons pe_str (pa_cons (pe_op op_mulW (pe_op op_pow pe_int pe_int) (pe_op op_pow pe_int pe_int)) pa_nil)))))))
      (pss_one (ps_ret (pe_call GP hr2 (by rfl) PK.m PK.F.kp PK.b .nil pass0 (pa_cons (pv 0) (pa_cons (pe_op op_cat (pv 1) (pe_lc (own := [("_law_k", 3)]) (g := gName 3) (tt := tYes) rfl scOdd.nd (pi_range1 rfl T.range (pa_cons pe_int pa_nil)) (blkOk_by (N := nOdd) (sc := defScope sOdd) (by decide +kernel)) (fun _ _ _ _ _ => pg_name (i := 3) scOdd.nd rfl (Or.inl rfl)) (fun _ _ _ _ _ => pts_nil) (fun _ _ _ _ _ => pe_call GP hr2 (by rfl) PK.m PK.F.kp PK.b .nil pass0 (pa_cons (pv 0) (pa_cons (pv 2) pa_nil))))) pa_nil)))))))), ?_⟩
    refine ⟨(by show 1 ≤ sizeLine; decide), fun t1 ht1 => ⟨(by show 1 ≤ sizeLine; decide), fun l1 hl1 d1 hd1 => ⟨(by show 14 ≤ sizeLine; decide), fun l2 hl2 => ?_⟩⟩⟩
    have s1 : Same H (upd H t1 (.tup [V.str "a"])) := (Same.refl H).put ht1
    have s2 := s1.put (o := .lst [V.str "a"]) (s1.free hl1)
    have s3 := s2.put (o := .dK []) (s2.free hd1)
    have x1 : (upd (upd (upd H t1 (.tup [V.str "a"])) l1 (.lst [V.str "a"])) d1 (.dK [])) t1 = some (.tup [V.str "a"]) := by
      rw [upd_ne (ne_of_none (o := .tup [V.str "a"]) (by rw [upd_ne (ne_of_none upd_same hl1), upd_same]) hd1), upd_ne (ne_of_none upd_same hl1), upd_same]
    have x2 : (upd (upd (upd H t1 (.tup [V.str "a"])) l1 (.lst [V.str "a"])) d1 (.dK [])) l1 = some (.lst [V.str "a"]) := by rw [upd_ne (ne_of_none upd_same hd1), upd_same]
    have x3 : (upd (upd (upd H t1 (.tup [V.str "a"])) l1 (.lst [V.str "a"])) d1 (.dK [])) d1 = some (.dK []) := upd_same
    have nl1 : l1 ≠ p := ((P0.same s1).pne hl1).symm
    generalize upd (upd (upd H t1 (.tup [V.str "a"])) l1 (.lst [V.str "a"])) d1 (.dK []) = H3 at s3 x1 x2 x3 hl2 ⊢
    have P3 := P0.same s3
    have i14 : ∀ v ∈ [V.non, .bl true, .int 7, .str "", .str "A", .str "a1", .str "a b", .str "abcdefghi", .str "aB", .ref t1, .ref l1, .ref d1, .str "a ", .str " a"], It H3 p v := fun v hv => by
      simp only [List.mem_cons, List.not_mem_nil, or_false] at hv
      rcases hv with rfl | rfl | rfl | rfl | rfl | rfl | rfl | rfl | rfl | rfl | rfl | rfl | rfl | rfl
      · exact .no .non (by intro z; cases z)
      · exact .no (.bl _) (by intro z; cases z)
      · exact .no (.int _) (by intro z; cases z)
      · exact .str _ (by decide +kernel)
      · exact .str _ (by decide +kernel)
      · exact .str _ (by decide +kernel)
      · exact .str _ (by decide +kernel)
      · exact .str _ (by decide +kernel)
      · exact .str _ (by decide +kernel)
      · exact .no (.tup x1) (ref_ne (P3.tup_ne x1))
      · exact .no (.lst x2) (ref_ne nl1)
      · exact .no (.dK x3) (ref_ne (P3.dict_ne x3))
      · exact .str _ (by decide +kernel)
      · exact .str _ (by decide +kernel)
    have s4 : Same H3 (upd H3 l2 (.lst [V.non, .bl true, .int 7, .str "", .str "A", .str "a1", .str "a b", .str "abcdefghi", .str "aB", .ref t1, .ref l1, .ref d1, .str "a ", .str " a"])) := (Same.refl H3).put hl2
    have x4 : (upd H3 l2 (.lst [V.non, .bl true, .int 7, .str "", .str "A", .str "a1", .str "a b", .str "abcdefghi", .str "aB", .ref t1, .ref l1, .ref d1, .str "a ", .str " a"])) l2 = some (.lst [V.non, .bl true, .int 7, .str "", .str "A", .str "a1", .str "a b", .str "abcdefghi", .str "aB", .ref t1, .ref l1, .ref d1, .str "a ", .str " a"]) := upd_same
    obtain ⟨vs14, hvs⟩ : ∃ q, [V.non, .bl true, .int 7, .str "", .str "A", .str "a1", .str "a b", .str "abcdefghi", .str "aB", .ref t1, .ref l1, .ref d1, .str "a ", .str " a"] = q := ⟨_, rfl⟩
    have v14 : vs14.length = 14 := by rw [← hvs]; rfl
    rw [hvs] at i14 s4 x4
    rw [hvs]
    generalize upd H3 l2 (.lst vs14) = H4 at s4 x4 ⊢
    have P4 := P3.same s4
    refine ⟨rfl, fun lb hlb => ?_⟩
    have s5 : Same H4 (upd H4 lb (.lst (barred.map V.str))) := (Same.refl H4).put hlb
    have x5 : (upd H4 lb (.lst (barred.map V.str))) lb = some (.lst (barred.map V.str)) := upd_same
    have nlb : lb ≠ p := (P4.pne hlb).symm
    generalize upd H4 lb (.lst (barred.map V.str)) = H5 at s5 x5 ⊢
    have x45 := s5 _ _ x4
    have big : (10 : Int) ^ (60 : Int).toNat * 10 ^ (39 : Int).toNat = 10 ^ 99 := by decide +kernel
    refine ⟨_, rfl, _, _, rfl, rfl, ⟨by decide, by decide, by decide⟩, _, _, rfl, rfl, ⟨by decide, by decide, by decide⟩, _, _, rfl, rfl, wide_mul (a := 300) (b := 300) (by decide +kernel) (by decide +kernel) (by decide) (by decide) (by decide), (by show 4 ≤ sizeLine; decide), fun l3 hl3 => ?_⟩
    have s6 : Same H5 (upd H5 l3 (.lst [V.str "error", .str "vacant", .str "zzzzzzzz", .int (10 ^ (60 : Int).toNat * 10 ^ (39 : Int).toNat)])) := (Same.refl H5).put hl3
    have x6 : (upd H5 l3 (.lst [V.str "error", .str "vacant", .str "zzzzzzzz", .int (10 ^ (60 : Int).toNat * 10 ^ (39 : Int).toNat)])) l3 = some (.lst [V.str "error", .str "vacant", .str "zzzzzzzz", .int (10 ^ (60 : Int).toNat * 10 ^ (39 : Int).toNat)]) := upd_same
    have i4 : ∀ v ∈ [V.str "error", .str "vacant", .str "zzzzzzzz", .int (10 ^ (60 : Int).toNat * 10 ^ (39 : Int).toNat)], ∀ H, It H p v := fun v hv H => by
      simp only [List.mem_cons, List.not_mem_nil, or_false] at hv
      rcases hv with rfl | rfl | rfl | rfl
      · exact .str _ (by decide +kernel)
      · exact .str _ (by decide +kernel)
      · exact .str _ (by decide +kernel)
      · exact .no (.int _) (by intro z; cases z)
    obtain ⟨vs4, hv4⟩ : ∃ q, [V.str "error", .str "vacant", .str "zzzzzzzz", .int (10 ^ (60 : Int).toNat * 10 ^ (39 : Int).toNat)] = q := ⟨_, rfl⟩
    have v4 : vs4.length = 4 := by rw [← hv4]; rfl
    rw [hv4] at i4 s6 x6
    rw [hv4]
    generalize upd H5 l3 (.lst vs4) = H6 at s6 x6 ⊢
    refine ⟨l2, l3, _, _, rfl, rfl, s6 _ _ x45, x6, by rw [v14, v4]; decide, fun l4 hl4 => ?_⟩
    have s7 : Same H6 (upd H6 l4 (.lst (vs14 ++ vs4))) := (Same.refl H6).put hl4
    have x7 : (upd H6 l4 (.lst (vs14 ++ vs4))) l4 = some (.lst (vs14 ++ vs4)) := upd_same
    generalize upd H6 l4 (.lst (vs14 ++ vs4)) = H7 at s7 x7 ⊢
    have s47 := (s5.trans s6).trans s7
    have P7 := P4.same s47
    have nl4 : l4 ≠ p := (((P4.same s5).same s6).pne hl4).symm
    have x57 := (s6.trans s7) _ _ x5
    refine ⟨_, rfl, _, rfl, 9, rfl, by decide, by decide, fun D hD => ?_⟩
    have nD : D ≠ p := (P7.pne hD).symm
    refine lc_range (lo := 0) (n := 9) (fun i Hc => ∃ vs9 : List V, Hc D = some (.lst vs9) ∧ vs9.length = i ∧ (∀ v ∈ vs9, ∀ H, It H p v) ∧ Keep p H7 Hc ∧ Pen Hc p c ns (n + i)) ?_ ?_ ?_
    · exact ⟨[], upd_same, rfl, fun v hv => (by cases hv), (Keep.refl p H7).new hD, P7.new hD⟩
    · rintro i Hc hi ⟨vs9, g1, g2, g3, kc, Pc⟩
      refine ⟨rfl, _, rfl, _, rfl, p, c, ns, _, _, _, rfl, Pc, by omega, .inl ⟨lb, rfl, nlb, kc _ _ x57 nlb⟩, (by intro e; have := congrArg List.length e; revert this; decide +kernel), (by decide +kernel), fun j v H' hv k' P' => ?_⟩
      obtain ⟨w9, hw9, rfl⟩ := List.mem_map.mp (List.mem_of_getElem? hv)
      have hb : w9.length ≤ sizeLine := by
        have : ∀ w ∈ barred, w.length ≤ 16777216 := by decide +kernel
        exact this w9 hw9
      refine ⟨_, k' _ _ g1 nD, by rw [g2]; show i < 16777216; omega, vs9 ++ [V.str w9], upd_same, by rw [List.length_append, g2]; rfl, fun v hv H => ?_, fun b o e hb' => ?_, (P'.upd' nD.symm (ne_of_none P7.cells hD))⟩
      · rcases List.mem_append.mp hv with hv | hv
        · exact g3 v hv H
        · rw [List.mem_singleton.mp hv]
          exact .str _ hb
      · rw [upd_ne (ne_of_none e hD)]
        exact (kc.trans k') b o e hb'
    · rintro Hc ⟨vs9, g1, g2, g3, kc, Pc⟩
      refine ⟨l4, D, _, _, rfl, rfl, kc _ _ x7 nl4, g1, by rw [List.length_append, v14, v4, g2]; decide, fun l5 hl5 => ?_⟩
      have k37 : Keep p H3 Hc := ((s4.trans s47).keep).trans kc
      refine ⟨p, c, ns, n + 9, _, (vs14 ++ vs4) ++ vs9, rfl, Pc.new hl5, by omega, .inl ⟨l5, rfl, (Pc.pne hl5).symm, upd_same⟩, ?_, ?_, fun j v H' hv k' P' => ?_⟩
      · intro e
        have := congrArg List.length e
        rw [List.length_append, List.length_append, v14] at this
        simp at this
      · rw [List.length_append, List.length_append, v14, v4, g2]
        decide
      · have kk : Keep p Hc H' := ((Keep.refl p Hc).new hl5).trans k'
        refine k v H' ?_ ((s3.keep.trans k37).trans kk) P'
        rcases List.mem_append.mp (List.mem_of_getElem? hv) with h | h
        · rcases List.mem_append.mp h with h | h
          · exact (i14 v h).keep (k37.trans kk)
          · exact i4 v h H'
        · exact g3 v h H'
end
end K2
end
section
set_option Elab.async false
set_option maxRecDepth 100000
set_option linter.all false
namespace K2
open PySem L2
abbrev sBt : Stmt := top 42
abbrev nBt : List Str := ["_law_pen_here", "_law_rows_here", "_law_k", "_law_row_here", "_law_heads", "_law_one", "_law_names", "_law_way", "_law_some", "_law_spot"]
theorem ix_tupK {X : Cx} {K' : PySem.W.Frag} (hK : X.K = K') : IxR X (rIxT K') := by
  subst hK
  exact ix_tup
theorem op_neT0K {X : Cx} {K' : PySem.W.Frag} (hK : X.K = K') (hu : X.A.units < cLine) : OpR X (compareOp .NotEq) (rNeT0 K') := by
  subst hK
  exact op_neT0 hu
/-- what may stand among the rows -/
inductive RV (H : Hp) (p : Addr) (m : Nat) : V → Prop where
  | str (y : Str) : RV H p m (.str y)
  | no {v : V} {t : String} (h : Nos H v t) (n : t ≠ "tuple") (np : v ≠ .ref p) : RV H p m v
  | tup {a : Addr} {xs : List V} (h : H a = some (.tup xs)) (np : a ≠ p) (l : xs.length ≤ m) (it : ∀ x ∈ xs, It H p x) : RV H p m (.ref a)
theorem RV.keep {p : Addr} {m : Nat} {H H' : Hp} {v : V} (h : RV H p m v) (k : Keep p H H') : RV H' p m v := by
  cases h with
  | str y => exact .str y
  | no h n np => exact .no (h.keep np k) n np
  | tup h np l it => exact .tup (k _ _ h np) np l fun x hx => (it x hx).keep k
theorem RV.mono {p : Addr} {m m' : Nat} {H : Hp} {v : V} (h : RV H p m v) (l : m ≤ m') : RV H p m' v := by
  cases h with
  | str y => exact .str y
  | no h n np => exact .no h n np
  | tup h np l' it => exact .tup h np (Nat.le_trans l' l) it
theorem It.rv {p : Addr} {m : Nat} {H : Hp} {y : Str} : RV H p m (.str y) := .str y
theorem cutV_to (xs : List V) (k : Nat) : cutV xs none (some (k : Int)) = xs.take k := by
  unfold cutV
  rw [HT.sIx_nat, HT.sIx_none, List.drop_zero, Nat.sub_zero]
  by_cases h : k ≤ xs.length
  · rw [Nat.min_eq_left h]
  · rw [Nat.min_eq_right (by omega), List.take_of_length_le (Nat.le_refl _), List.take_of_length_le (by omega)]
theorem cutV_from (xs : List V) (k : Nat) : cutV xs (some (k : Int)) none = xs.drop k := by
  unfold cutV
  rw [HT.sIx_nat, HT.sIx_none]
  by_cases h : k ≤ xs.length
  · rw [Nat.min_eq_left h, List.take_of_length_le (by rw [List.length_drop]; exact Nat.le_refl _)]
  · rw [Nat.min_eq_right (by omega), List.drop_of_length_le (Nat.le_refl _), List.drop_of_length_le (by omega)]
    simp
def spBt : Sp := fun vs0 H Q _ => ∃ (p c l : Addr) (ns : List Int) (n k m : Nat) (vs : List V) (a : Addr) (xs : List V) (y0 : Str), vs0 = [.ref p, .ref l, .int (k : Int)] ∧ Pen H p c ns n ∧ n + 60 ≤ 100000 ∧ H l = some (.lst vs) ∧ l ≠ p ∧ vs.length ≤ 64 ∧ (∀ v ∈ vs, RV H p m v) ∧ m ≤ 80 ∧
  vs[k]? = some (.ref a) ∧ H a = some (.tup xs) ∧ xs[0]? = some (.str y0) ∧ ∀ (v : V) (H' : Hp), RV H' p (m + 2) v → Keep p H H' → Pen H' p c ns (n + 20) → Q v H'
section
variable {P : Program} {w : World} {K : PySem.W.Frag} {mg : Str → Option Value} {base : Heap}
theorem scBt : FnScope nBt ["_law_pen_here", "_law_rows_here", "_law_k"] (defScope sBt) := ⟨rfl, rfl, rfl, by decide +kernel, rfl, by decide +kernel, by decide +kernel⟩
set_option maxHeartbeats 1000000 in
theorem ok_bt {f fD fO fP : Addr} {fd fdD fdO fdP : FuncData} (F : Fun K "_law_bent" "_law_bent" sBt f fd) (T : Bi mg) (D : Df K mg "_law_draw" sDraw fD fdD ["_law_pen_here", "_law_many"]) (GD : FnOk P w K mg base CX0 1 fD fdD ["_law_pen_here", "_law_many"] spDraw)
    (OD : Df K mg "_law_odd" sOdd fO fdO ["_law_pen_here"]) (GO : FnOk P w K mg base CX0 3 fO fdO ["_law_pen_here"] spOdd) (PK : Df K mg "_law_pick" sPick fP fdP ["_law_pen_here", "_law_some"]) (GP : FnOk P w K mg base CX0 2 fP fdP ["_law_pen_here", "_law_some"] spPick) :
    FnOk P w K mg base CX0 4 f fd ["_law_pen_here", "_law_rows_here", "_law_k"] spBt := by
  refine F.ok scBt (fun vs H Q E h => ?_) (fun cdv A outer s H vs Q E hr h => ?_)
  · obtain ⟨p, c, l, ns, n, k, m, vs, a, xs, y0, rfl, _⟩ := h
    rfl
  · obtain ⟨p, c, l, ns, n, k, m, vs, a, xs, y0, rfl, P0, hn, hl, nl, h64, hv, h80, hk, ha, hx0, kQ⟩ := h
    have hr1 : Room 1 _ := hr.mono (by decide)
    have hr2 : Room 2 _ := hr.mono (by decide)
    have hr3 : Room 3 _ := hr
    have hu := hu_of hr
    have hcu := Nat.lt_of_succ_lt hu
    obtain ⟨na, xl, xit⟩ : a ≠ p ∧ xs.length ≤ m ∧ ∀ x ∈ xs, It H p x := by
      have := hv _ (List.mem_of_getElem? hk)
      cases this with
      | no h n np =>
        cases h with
        | tup h => exact absurd rfl n
        | lst h => rw [ha] at h; cases h
        | dK h => rw [ha] at h; cases h
      | tup h np l it =>
        rw [ha] at h
        cases h
        exact ⟨np, l, it⟩
    have xne : xs ≠ [] := by
      intro e
      rw [e] at hx0
      cases hx0
    refine ⟨_, (pss_cons (ps_set (i := 3) scBt.nd rfl (Or.inl rfl) (pe_ix ix_list (pv 1) (pv 2) (fun _ _ => rfl)))
      (pss_cons (ps_setLc (i := 4) (own := [("_law_one", 5)]) (g := gName 5)  rfl scBt.nd rfl rfl (sw_true rfl rfl rfl (by decide +kernel)) (pi_list (pv 1)) (blkOk_by (N := nBt) (sc := defScope sBt) (by decide +kernel)) (fun _ _ _ _ _ => pg_name (i := 5) scBt.nd rfl (Or.inl rfl)) (fun _ _ _ _ _ => pts_one (PW.pt (pw_and (pt_val (pe_callB (call_isiK' (K' := K) rfl) (by rfl) T.isinstance (by decide +kernel) (pa_cons (pv 5) (pa_cons (pe_bltn (v := .ty "tuple") (by rfl) T.tuple (by decide +kernel) rfl) pa_nil)))) (pw_and1 (pt_cmpR (op_neT0K (K' := K) rfl hcu) (pv 5) (pe_tup pa_nil) (nomark _)))))) (fun _ _ _ _ _ => pe_ix (ix_tupK (K' := K) rfl) (pv 5) pe_int (fun _ _ => rfl)))
      (pss_cons (ps_set (i := 6) scBt.nd rfl (Or.inl rfl) (pe_op op_cat (pe_lst (pa_cons pe_str (pa_cons pe_str pa_nil))) (pv 4)))
      (pss_cons (ps_set (i := 7) scBt.nd rfl (Or.inl rfl) (pe_call GD hr1 (by rfl) D.m D.F.kp D.b .nil pass0 (pa_cons (pv 0) (pa_cons pe_int pa_nil))))
      (pss_cons (ps_if (pt_cmpR op_eq (pv 7) pe_int (nomark _))
      (pss_cons (ps_set (i := 8) scBt.nd rfl (Or.inl rfl) (pe_lst (pa_cons (pe_callTy call_list_of (by rfl) T.list (by decide +kernel) (pa_cons (pv 3) pa_nil)) (pa_cons (pe_slice sl_tup2 (pv 3) po_none (po_some pe_int)) (pa_cons (pe_tup pa_nil) (pa_cons pe_non (pa_cons (pe_ix ix_tup (pv 3) pe_int (fun _ _ => rfl)) (pa_cons pe_str (pa_cons pe_int (pa_cons pe_dnewK (pa_cons (pe_lst (pa_cons (pv 3) pa_nil)) (pa_cons (pe_tup (pa_cons (pv 3) pa_nil)) (pa_cons pe_bl pa_nil)))))))))))))
        (pss_one (ps_ret (pe_call GP hr2 (by rfl) PK.m PK.F.kp PK.b .nil pass0 (pa_cons (pv 0) (pa_cons (pv 8) pa_nil))))))
      pss_nil)
      (pss_cons (ps_set (i := 9) scBt.nd rfl (Or.inl rfl) (pe_call GD hr1 (by rfl) D.m D.F.kp D.b .nil pass0 (pa_cons (pv 0) (pa_cons (pe_callB call_len_seq (by rfl) T.len PySem.boot_len (pa_cons (pv 3) pa_nil)) pa_nil))))
      (pss_cons (ps_if (pt_cmpR op_lt (pv 7) pe_int (nomark _))
      (pss_one (ps_ret (pe_op op_cat2 (pe_op op_cat2 (pe_slice sl_tup2 (pv 3) po_none (po_some (pv 9))) (pe_tup (pa_cons (pe_call GO hr3 (by rfl) OD.m OD.F.kp OD.b .nil pass0 (pa_cons (pv 0) pa_nil)) pa_nil))) (pe_slice sl_tup2 (pv 3) (po_some (pe_op op_add (pv 9) pe_int)) po_none))))
      pss_nil)
      (pss_cons (ps_if (pt_cmpR op_eq (pv 7) pe_int (nomark _))
      (pss_one (ps_ret (pe_op op_cat2 (pe_tup (pa_cons (pe_call GP hr2 (by rfl) PK.m PK.F.kp PK.b .nil pass0 (pa_cons (pv 0) (pa_cons (pv 6) pa_nil))) pa_nil)) (pe_slice sl_tup2 (pv 3) (po_some pe_int) po_none))))
      pss_nil)
      (pss_cons (ps_if (pt_cmpR op_lt (pv 7) pe_int (nomark _))
      (pss_one (ps_ret (pe_op op_cat2 (pe_op op_cat2 (pe_slice sl_tup2 (pv 3) po_none (po_some (pv 9))) (pe_tup (pa_cons (pe_call GP hr2 (by rfl) PK.m PK.F.kp PK.b .nil pass0 (pa_cons (pv 0) (pa_cons (pv 6) pa_nil))) pa_nil))) (pe_slice sl_tup2 (pv 3) (po_some (pe_op op_add (pv 9) pe_int)) po_none))))
      pss_nil)
      (pss_cons (ps_if (pt_cmpR op_eq (pv 7) pe_int (nomark _))
      (pss_one (ps_ret (pe_op op_cat2 (pv 3) (pe_tup (pa_cons (pe_call GP hr2 (by rfl) PK.m PK.F.kp PK.b .nil pass0 (pa_cons (pv 0) (pa_cons (pv 3) pa_nil))) pa_nil)))))
      pss_nil)
      (pss_cons (ps_if (pt_cmpR op_eq (pv 7) pe_int (nomark _))
      (pss_one (ps_ret (pe_tup (pa_cons (pe_ix ix_tup (pv 3) pe_int (fun _ _ => rfl)) (pa_cons (pe_ix ix_tup (pv 3) pe_int (fun _ _ => rfl)) pa_nil)))))
      pss_nil)
      (pss_one (ps_ret (pe_op op_cat2 (pv 3) (pe_slice sl_tup2 (pe_tup (pa_cons pe_str (pa_cons (pe_call GO hr3 (by rfl) OD.m OD.F.kp OD.b .nil pass0 (pa_cons (pv 0) pa_nil)) pa_nil))) po_none (po_some (pe_op op_add pe_int (pe_call GD hr1 (by rfl) D.m D.F.kp D.b .nil pass0 (pa_cons (pv 0) (pa_cons pe_int pa_nil)))))))))))))))))))), ?_⟩
    refine ⟨_, rfl, _, rfl, l, _, (k : Int), _, rfl, rfl, SqL.of hl, atI_nat hk, ?_⟩
    -- heads
    refine ⟨_, rfl, l, rfl, ⟨_, SqL.of hl⟩, fun D0 hD0 => ?_⟩
    have nD0 : D0 ≠ p := (P0.pne hD0).symm
    refine lc_list (K := K) (a := l) (xs := vs) (fun i Hd => ∃ hs : List V, Hd D0 = some (.lst hs) ∧ hs.length ≤ i ∧ (∀ x ∈ hs, It H p x) ∧ Same H Hd) ?_ ?_ ?_ ?_
    · exact ⟨[], upd_same, Nat.le_refl _, fun x hx => (by cases hx), (Same.refl H).put hD0⟩
    · rintro i Hd _ ⟨hs, _, _, _, sd⟩
      exact SqL.of (sd _ _ hl)
    · rintro i v Hd hvi ⟨hs, g1, g2, g3, sd⟩
      have hil : i < vs.length := (List.getElem?_eq_some_iff.mp hvi).1
      have hrv := hv v (List.mem_of_getElem? hvi)
      cases hrv with
      | str y => exact ⟨rfl, _, rfl, _, _, _, _, false, rfl, .ty _, .base (.str _), kit_ty (by decide +kernel), _, rfl, iteF (iteF ⟨hs, g1, by omega, g3, sd⟩)⟩
      | no h nn np => exact ⟨rfl, _, rfl, _, _, _, _, false, rfl, .ty _, (h.keep np sd.keep).ty, h.kitT nn, _, rfl, iteF (iteF ⟨hs, g1, by omega, g3, sd⟩)⟩
      | tup h np ll it =>
        rename_i a' xs'
        refine ⟨rfl, _, rfl, _, _, _, _, true, rfl, .ty _, .base (.tup (sd _ _ h)), kit_ty (by decide +kernel), _, rfl, iteT ⟨_, rfl, Nat.zero_le _, fun e0 he0 => ?_⟩⟩
        have s2 : Same Hd (upd Hd e0 (.tup [])) := (Same.refl Hd).put he0
        refine ⟨a', e0, xs', rfl, rfl, SqT.of (s2 _ _ (sd _ _ h)), SqT.of upd_same, _, rfl, ?_⟩
        cases xs' with
        | nil => exact iteF ⟨hs, s2 _ _ g1, by omega, g3, sd.trans s2⟩
        | cons x0 r0 =>
          refine iteT ⟨_, rfl, a', _, _, x0, rfl, rfl, SqT.of (s2 _ _ (sd _ _ h)), atI_nat (j := 0) rfl, hs, s2 _ _ g1, by show _ < 16777216; omega, hs ++ [x0], upd_same, by rw [List.length_append]; show _ + 1 ≤ _; omega, fun x hx => ?_, (sd.trans s2).put hD0⟩
          rcases List.mem_append.mp hx with hx | hx
          · exact g3 x hx
          · rw [List.mem_singleton.mp hx]
            exact it x0 List.mem_cons_self
    rintro H1 ⟨hs, g1, g2, g3, s1⟩
    -- names
    refine ⟨(by show 2 ≤ sizeLine; decide), fun l0 hl0 => ?_⟩
    have s2 : Same H1 (upd H1 l0 (.lst [V.str "error", V.str "vacant"])) := (Same.refl H1).put hl0
    have x2 : (upd H1 l0 (.lst [V.str "error", V.str "vacant"])) l0 = some (.lst [V.str "error", V.str "vacant"]) := upd_same
    generalize upd H1 l0 (.lst [V.str "error", V.str "vacant"]) = H2 at s2 x2 ⊢
    refine ⟨_, rfl, l0, D0, _, _, rfl, rfl, x2, s2 _ _ g1, by show 2 + hs.length ≤ 16777216; omega, fun l1 hl1 => ?_⟩
    have nmi : ∀ x ∈ [V.str "error", V.str "vacant"] ++ hs, It H p x := fun x hx => by
      rcases List.mem_append.mp hx with hx | hx
      · simp only [List.mem_cons, List.not_mem_nil, or_false] at hx
        rcases hx with rfl | rfl
        · exact .str _ (by decide +kernel)
        · exact .str _ (by decide +kernel)
      · exact g3 x hx
    have nml : ([V.str "error", V.str "vacant"] ++ hs).length ≤ 70 := by rw [List.length_append]; show 2 + _ ≤ 70; omega
    have nmn : [V.str "error", V.str "vacant"] ++ hs ≠ [] := by simp
    generalize [V.str "error", V.str "vacant"] ++ hs = nmv at nmi nml nmn hl1 ⊢
    have s3 : Same H2 (upd H2 l1 (.lst nmv)) := (Same.refl H2).put hl1
    have x3 : (upd H2 l1 (.lst nmv)) l1 = some (.lst nmv) := upd_same
    have nl1 : l1 ≠ p := (((P0.same s1).same s2).pne hl1).symm
    generalize upd H2 l1 (.lst nmv) = H3 at s3 x3 ⊢
    have s03 := (s1.trans s2).trans s3
    have P3 := P0.same s03
    refine ⟨_, rfl, p, c, ns, n, 9, rfl, P3, by omega, by decide, by decide, fun dw H4 w0 w1 k4 P4 => ?_⟩
    have K4 : Keep p H H4 := s03.keep.trans k4
    have x4 := k4 _ _ x3 nl1
    have ha4 := K4 _ _ ha na
    -- a tuple of such things
    have tupRV : ∀ {H' : Hp} {t : Addr} {zs : List V} {m' : Nat}, Pen H' p c ns m' → H' t = some (.tup zs) → zs.length ≤ m + 2 → (∀ z ∈ zs, It H' p z) → RV H' p (m + 2) (.ref t) := fun PP e ll ii => .tup e (PP.tup_ne e) ll ii
    refine ⟨_, rfl, rfl, _, rfl, ite2 (fun z => ?_) (fun z => ?_)⟩
    · -- otherwise no row
      refine ⟨_, rfl, a, _, rfl, .inr (SqT.of ha4), fun q1 hq1 => ?_⟩
      have t1 : Same H4 (upd H4 q1 (.lst xs)) := (Same.refl H4).put hq1
      have y1 : (upd H4 q1 (.lst xs)) q1 = some (.lst xs) := upd_same
      have n1 : q1 ≠ p := (P4.pne hq1).symm
      generalize upd H4 q1 (.lst xs) = H5 at t1 y1 ⊢
      refine ⟨_, rfl, 1, rfl, a, _, rfl, t1 _ _ ha4, fun q2 H6 t2 hq2 => ⟨Nat.zero_le _, fun q3 hq3 => ?_⟩⟩
      have t3 : Same H6 (upd H6 q3 (.tup [])) := (Same.refl H6).put hq3
      have y3 : (upd H6 q3 (.tup [])) q3 = some (.tup []) := upd_same
      generalize upd H6 q3 (.tup []) = H7 at t3 y3 ⊢
      have t13 := (t1.trans t2).trans t3
      refine ⟨_, rfl, a, _, _, _, rfl, rfl, SqT.of (t13 _ _ ha4), atI_nat (j := 0) hx0, fun q4 hq4 => ?_⟩
      have t4 : Same H7 (upd H7 q4 (.dK [])) := (Same.refl H7).put hq4
      have y4 : (upd H7 q4 (.dK [])) q4 = some (.dK []) := upd_same
      generalize upd H7 q4 (.dK []) = H8 at t4 y4 ⊢
      refine ⟨_, rfl, (by show 1 ≤ sizeLine; decide), fun q5 hq5 => ?_⟩
      have t5 : Same H8 (upd H8 q5 (.lst [V.ref a])) := (Same.refl H8).put hq5
      have y5 : (upd H8 q5 (.lst [V.ref a])) q5 = some (.lst [V.ref a]) := upd_same
      have n5 : q5 ≠ p := (((P4.same t13).same t4).pne hq5).symm
      generalize upd H8 q5 (.lst [V.ref a]) = H9 at t5 y5 ⊢
      refine ⟨_, rfl, (by show 1 ≤ sizeLine; decide), fun q6 hq6 => ?_⟩
      have t6 : Same H9 (upd H9 q6 (.tup [V.ref a])) := (Same.refl H9).put hq6
      have y6 : (upd H9 q6 (.tup [V.ref a])) q6 = some (.tup [V.ref a]) := upd_same
      generalize upd H9 q6 (.tup [V.ref a]) = H10 at t6 y6 ⊢
      have t46 := (t4.trans t5).trans t6
      have t16 := t13.trans t46
      have P10 := P4.same t16
      refine ⟨(by show 11 ≤ sizeLine; decide), fun q7 hq7 => ?_⟩
      have t7 : Same H10 (upd H10 q7 (.lst [.ref q1, .ref q2, .ref q3, .non, .str y0, .str "a error", .int 7, .ref q4, .ref q5, .ref q6, .bl true])) := (Same.refl H10).put hq7
      refine ⟨_, rfl, _, rfl, p, c, ns, _, _, _, rfl, P10.new hq7, by omega, .inl ⟨q7, rfl, (P10.pne hq7).symm, upd_same⟩, by simp, (by show 11 ≤ 1000; decide), fun j v H11 hvj k11 P11 => ?_⟩
      have K11 : Keep p H10 H11 := t7.keep.trans k11
      refine kQ v H11 ?_ (K4.trans (t16.keep.trans K11)) (P11.mono (by omega))
      have hm := List.mem_of_getElem? hvj
      simp only [List.mem_cons, List.not_mem_nil, or_false] at hm
      have i0 : It H p (.str y0) := xit _ (List.mem_of_getElem? hx0)
      rcases hm with rfl | rfl | rfl | rfl | rfl | rfl | rfl | rfl | rfl | rfl | rfl
      · exact (RV.no (.lst ((t2.trans (t3.trans t46)) _ _ y1)) (by decide) (ref_ne n1)).keep K11
      · refine (RV.tup ((t3.trans t46) _ _ hq2) (P10.tup_ne ((t3.trans t46) _ _ hq2)) ?_ fun x hx => ?_).keep K11
        · rw [show (1 : Int) = ((1 : Nat) : Int) from rfl, cutV_to, List.length_take]
          omega
        · rw [show (1 : Int) = ((1 : Nat) : Int) from rfl, cutV_to] at hx
          exact (xit x (List.mem_of_mem_take hx)).keep (K4.trans t16.keep)
      · exact (RV.tup (t46 _ _ y3) (P10.tup_ne (t46 _ _ y3)) (by show 0 ≤ _; omega) (fun x hx => by cases hx)).keep K11
      · exact .no .non (by decide) (by intro z; cases z)
      · exact .str _
      · exact .str _
      · exact .no (.int _) (by decide) (by intro z; cases z)
      · exact (RV.no (.dK ((t5.trans t6) _ _ y4)) (by decide) (ref_ne (P10.dict_ne ((t5.trans t6) _ _ y4)))).keep K11
      · exact (RV.no (.lst (t6 _ _ y5)) (by decide) (ref_ne n5)).keep K11
      · refine (RV.tup y6 (P10.tup_ne y6) (by show 1 ≤ _; omega) fun x hx => ?_).keep K11
        rw [List.mem_singleton.mp hx]
        exact .no (.tup (t16 _ _ ha4)) (ref_ne na)
      · exact .no (.bl _) (by decide) (by intro z; cases z)
    -- a place in the row
    refine ⟨_, rfl, _, rfl, a, _, rfl, .inr (SqT.of ha4), p, c, ns, _, _, rfl, P4, by omega, ?_, ?_, fun ds H5 d0 d1 k5 P5 => ?_⟩
    · have := List.length_pos_iff.mpr xne
      omega
    · omega
    obtain ⟨j, rfl⟩ : ∃ j : Nat, ds = (j : Int) := ⟨ds.toNat, (Int.toNat_of_nonneg d0).symm⟩
    have hj : j < xs.length := by omega
    have K5 : Keep p H H5 := K4.trans k5
    have x5 := k5 _ _ x4 nl1
    have ha5 := K5 _ _ ha na
    have cast1 : ((j : Int) + 1) = ((j + 1 : Nat) : Int) := by push_cast; rfl
    clear z
    refine ⟨_, rfl, _, _, rfl, rfl, _, rfl, ite2 (fun z => ?_) (fun z => ?_)⟩
    · refine ⟨_, rfl, _, rfl, _, rfl, a, _, rfl, ha5, fun r1 H6 s6 hr1 => ?_⟩
      rw [cutV_to] at hr1
      refine ⟨_, rfl, p, c, ns, _, rfl, P5.same s6, by omega, fun v H7 iv k7 P7 => ⟨(by show 1 ≤ sizeLine; decide), fun r2 hr2 => ?_⟩⟩
      have s8 : Same H7 (upd H7 r2 (.tup [v])) := (Same.refl H7).put hr2
      have y8 : (upd H7 r2 (.tup [v])) r2 = some (.tup [v]) := upd_same
      generalize upd H7 r2 (.tup [v]) = H8 at s8 y8 ⊢
      have hr18 := s8 _ _ (k7 _ _ hr1 ((P5.same s6).tup_ne hr1))
      refine ⟨r1, r2, _, _, rfl, rfl, hr18, y8, by rw [List.length_take]; show _ + 1 ≤ 16777216; omega, fun r3 H9 s9 hr3 => ?_⟩
      have K9 : Keep p H5 H9 := ((s6.keep.trans k7).trans s8.keep).trans s9.keep
      refine ⟨_, rfl, _, rfl, _, _, rfl, rfl, _, rfl, a, _, rfl, K9 _ _ ha5 na, fun r4 H10 s10 hr4 => ?_⟩
      rw [cast1, cutV_from] at hr4
      refine ⟨r3, r4, _, _, rfl, rfl, s10 _ _ hr3, hr4, by rw [List.length_append, List.length_take, List.length_drop]; show _ + 1 + _ ≤ 16777216; omega, fun r5 H11 s11 hr5 => ?_⟩
      have K11 : Keep p H5 H11 := (K9.trans s10.keep).trans s11.keep
      have P11 := (((P7.same s8).same s9).same s10).same s11
      refine kQ _ H11 (tupRV P11 hr5 ?_ fun y hy => ?_) (K5.trans K11) (P11.mono (by omega))
      · rw [List.length_append, List.length_append, List.length_take, List.length_drop]
        show _ + 1 + _ ≤ _
        omega
      · rcases List.mem_append.mp hy with hy | hy
        · rcases List.mem_append.mp hy with hy | hy
          · exact (xit y (List.mem_of_mem_take hy)).keep (K5.trans K11)
          · rw [List.mem_singleton.mp hy]
            exact iv.keep (((s8.trans s9).trans s10).trans s11).keep
        · exact (xit y (List.mem_of_mem_drop hy)).keep (K5.trans K11)
    clear z
    refine ⟨_, rfl, rfl, _, rfl, ite2 (fun z => ?_) (fun z => ?_)⟩
    · refine ⟨_, rfl, _, rfl, p, c, ns, _, _, _, rfl, P5, by omega, .inl ⟨l1, rfl, nl1, x5⟩, nmn, by omega, fun jj v H6 hvj k6 P6 => ⟨(by show 1 ≤ sizeLine; decide), fun r2 hr2 => ?_⟩⟩
      have s8 : Same H6 (upd H6 r2 (.tup [v])) := (Same.refl H6).put hr2
      have y8 : (upd H6 r2 (.tup [v])) r2 = some (.tup [v]) := upd_same
      generalize upd H6 r2 (.tup [v]) = H8 at s8 y8 ⊢
      have K8 : Keep p H5 H8 := k6.trans s8.keep
      refine ⟨_, rfl, 1, rfl, a, _, rfl, K8 _ _ ha5 na, fun r4 H10 s10 hr4 => ?_⟩
      rw [show (1 : Int) = ((1 : Nat) : Int) from rfl, cutV_from] at hr4
      refine ⟨r2, r4, _, _, rfl, rfl, s10 _ _ y8, hr4, by rw [List.length_drop]; show 1 + _ ≤ 16777216; omega, fun r5 H11 s11 hr5 => ?_⟩
      have K11 : Keep p H5 H11 := (K8.trans s10.keep).trans s11.keep
      have P11 := ((P6.same s8).same s10).same s11
      refine kQ _ H11 (tupRV P11 hr5 ?_ fun y hy => ?_) (K5.trans K11) (P11.mono (by omega))
      · rw [List.length_append, List.length_drop]
        show 1 + _ ≤ _
        omega
      · rcases List.mem_append.mp hy with hy | hy
        · rw [List.mem_singleton.mp hy]
          exact (nmi v (List.mem_of_getElem? hvj)).keep (K5.trans K11)
        · exact (xit y (List.mem_of_mem_drop hy)).keep (K5.trans K11)
    clear z
    refine ⟨_, rfl, _, _, rfl, rfl, _, rfl, ite2 (fun z => ?_) (fun z => ?_)⟩
    · refine ⟨_, rfl, _, rfl, _, rfl, a, _, rfl, ha5, fun r1 H6 s6 hr1 => ?_⟩
      rw [cutV_to] at hr1
      refine ⟨_, rfl, _, rfl, p, c, ns, _, _, _, rfl, P5.same s6, by omega, .inl ⟨l1, rfl, nl1, s6 _ _ x5⟩, nmn, by omega, fun jj v H7 hvj k7 P7 => ⟨(by show 1 ≤ sizeLine; decide), fun r2 hr2 => ?_⟩⟩
      have s8 : Same H7 (upd H7 r2 (.tup [v])) := (Same.refl H7).put hr2
      have y8 : (upd H7 r2 (.tup [v])) r2 = some (.tup [v]) := upd_same
      generalize upd H7 r2 (.tup [v]) = H8 at s8 y8 ⊢
      have hr18 := s8 _ _ (k7 _ _ hr1 ((P5.same s6).tup_ne hr1))
      refine ⟨r1, r2, _, _, rfl, rfl, hr18, y8, by rw [List.length_take]; show _ + 1 ≤ 16777216; omega, fun r3 H9 s9 hr3 => ?_⟩
      have K9 : Keep p H5 H9 := ((s6.keep.trans k7).trans s8.keep).trans s9.keep
      refine ⟨_, rfl, _, rfl, _, _, rfl, rfl, _, rfl, a, _, rfl, K9 _ _ ha5 na, fun r4 H10 s10 hr4 => ?_⟩
      rw [cast1, cutV_from] at hr4
      refine ⟨r3, r4, _, _, rfl, rfl, s10 _ _ hr3, hr4, by rw [List.length_append, List.length_take, List.length_drop]; show _ + 1 + _ ≤ 16777216; omega, fun r5 H11 s11 hr5 => ?_⟩
      have K11 : Keep p H5 H11 := (K9.trans s10.keep).trans s11.keep
      have P11 := (((P7.same s8).same s9).same s10).same s11
      refine kQ _ H11 (tupRV P11 hr5 ?_ fun y hy => ?_) (K5.trans K11) (P11.mono (by omega))
      · rw [List.length_append, List.length_append, List.length_take, List.length_drop]
        show _ + 1 + _ ≤ _
        omega
      · rcases List.mem_append.mp hy with hy | hy
        · rcases List.mem_append.mp hy with hy | hy
          · exact (xit y (List.mem_of_mem_take hy)).keep (K5.trans K11)
          · rw [List.mem_singleton.mp hy]
            exact (nmi v (List.mem_of_getElem? hvj)).keep (K5.trans K11)
        · exact (xit y (List.mem_of_mem_drop hy)).keep (K5.trans K11)
    clear z
    refine ⟨_, rfl, rfl, _, rfl, ite2 (fun z => ?_) (fun z => ?_)⟩
    · refine ⟨_, rfl, _, rfl, _, rfl, p, c, ns, _, _, _, rfl, P5, by omega, .inr (.inr ⟨a, rfl, na, ha5⟩), xne, by omega, fun jj v H6 hvj k6 P6 => ⟨(by show 1 ≤ sizeLine; decide), fun r2 hr2 => ?_⟩⟩
      have s8 : Same H6 (upd H6 r2 (.tup [v])) := (Same.refl H6).put hr2
      have y8 : (upd H6 r2 (.tup [v])) r2 = some (.tup [v]) := upd_same
      generalize upd H6 r2 (.tup [v]) = H8 at s8 y8 ⊢
      have K8 : Keep p H5 H8 := k6.trans s8.keep
      refine ⟨a, r2, _, _, rfl, rfl, K8 _ _ ha5 na, y8, by show _ + 1 ≤ 16777216; omega, fun r5 H11 s11 hr5 => ?_⟩
      have K11 : Keep p H5 H11 := K8.trans s11.keep
      have P11 := (P6.same s8).same s11
      refine kQ _ H11 (tupRV P11 hr5 ?_ fun y hy => ?_) (K5.trans K11) (P11.mono (by omega))
      · rw [List.length_append]
        show _ + 1 ≤ _
        omega
      · rcases List.mem_append.mp hy with hy | hy
        · exact (xit y hy).keep (K5.trans K11)
        · rw [List.mem_singleton.mp hy]
          exact (xit v (List.mem_of_getElem? hvj)).keep (K5.trans K11)
    clear z
    refine ⟨_, rfl, rfl, _, rfl, ite2 (fun z => ?_) (fun z => ?_)⟩
    · refine ⟨_, rfl, a, _, _, _, rfl, rfl, SqT.of ha5, atI_nat (j := 0) hx0, _, rfl, a, _, _, _, rfl, rfl, SqT.of ha5, atI_nat (j := 0) hx0, (by show 2 ≤ sizeLine; decide), fun r5 hr5 => ?_⟩
      have s11 : Same H5 (upd H5 r5 (.tup [V.str y0, V.str y0])) := (Same.refl H5).put hr5
      refine kQ _ _ (tupRV (P5.same s11) upd_same (by show 2 ≤ _; omega) fun y hy => ?_) (K5.trans s11.keep) ((P5.same s11).mono (by omega))
      have : y = V.str y0 := by
        rcases List.mem_cons.mp hy with h | h
        · exact h
        · exact List.mem_singleton.mp h
      rw [this]
      exact (xit _ (List.mem_of_getElem? hx0)).keep (K5.trans s11.keep)
    clear z
    refine ⟨_, rfl, _, rfl, p, c, ns, _, rfl, P5, by omega, fun v H6 iv k6 P6 => ⟨(by show 2 ≤ sizeLine; decide), fun r2 hr2 => ?_⟩⟩
    have s8 : Same H6 (upd H6 r2 (.tup [V.str "zzzzzzzz", v])) := (Same.refl H6).put hr2
    have y8 : (upd H6 r2 (.tup [V.str "zzzzzzzz", v])) r2 = some (.tup [V.str "zzzzzzzz", v]) := upd_same
    generalize upd H6 r2 (.tup [V.str "zzzzzzzz", v]) = H8 at s8 y8 ⊢
    refine ⟨_, rfl, p, c, ns, _, 2, rfl, P6.same s8, by omega, by decide, by decide, fun dz H9 z0 z1 k9 P9 => ?_⟩
    obtain ⟨jz, rfl⟩ : ∃ j : Nat, dz = (j : Int) := ⟨dz.toNat, (Int.toNat_of_nonneg z0).symm⟩
    refine ⟨_, _, rfl, rfl, _, rfl, r2, _, rfl, k9 _ _ y8 ((P6.same s8).tup_ne y8), fun r4 H10 s10 hr4 => ?_⟩
    rw [show (1 + (jz : Int)) = ((1 + jz : Nat) : Int) by push_cast; rfl, cutV_to] at hr4
    have K10 : Keep p H5 H10 := ((k6.trans s8.keep).trans k9).trans s10.keep
    refine ⟨a, r4, _, _, rfl, rfl, K10 _ _ ha5 na, hr4, by rw [List.length_take]; show _ ≤ 16777216; omega, fun r5 H11 s11 hr5 => ?_⟩
    have K11 : Keep p H5 H11 := K10.trans s11.keep
    have P11 := (P9.same s10).same s11
    refine kQ _ H11 (tupRV P11 hr5 ?_ fun y hy => ?_) (K5.trans K11) (P11.mono (by omega))
    · rw [List.length_append, List.length_take]
      show _ + min _ 2 ≤ _
      omega
    · rcases List.mem_append.mp hy with hy | hy
      · exact (xit y hy).keep (K5.trans K11)
      · have hy := List.mem_of_mem_take hy
        rcases List.mem_cons.mp hy with rfl | hy
        · exact .str _ (by decide +kernel)
        · rw [List.mem_singleton.mp hy]
          exact iv.keep (((s8.keep.trans k9).trans s10.keep).trans s11.keep)
end
end K2
end
section
set_option Elab.async false
set_option maxRecDepth 100000
set_option linter.all false
namespace K2
open PySem L2
abbrev sSp : Stmt := top 43
abbrev nSp : List Str := ["_law_pen_here", "_law_rows_here", "_law_found", "_law_turn", "_law_k", "_law_row_here"]
theorem Nos.updL {H : Hp} {l : Addr} {xs ys : List V} {v : V} {t : String} (h : Nos H v t) (e : H l = some (.lst xs)) : Nos (upd H l (.lst ys)) v t := by
  have ne : ∀ {a : Addr} {o : HO}, H a = some o → (∀ zs, o ≠ .lst zs) → a ≠ l := fun h n q => by
    rw [q, e] at h
    exact n _ (Option.some.inj h).symm
  cases h with
  | non => exact .non
  | bl b => exact .bl b
  | int i => exact .int i
  | tup h => exact .tup (by rw [upd_ne (ne h fun _ => nofun)]; exact h)
  | dK h => exact .dK (by rw [upd_ne (ne h fun _ => nofun)]; exact h)
  | lst h =>
    rename_i a zs
    by_cases q : a = l
    · subst q; exact .lst upd_same
    · exact .lst (by rw [upd_ne q]; exact h)
theorem It.updL {H : Hp} {p l : Addr} {xs ys : List V} {v : V} (h : It H p v) (e : H l = some (.lst xs)) : It (upd H l (.lst ys)) p v := by
  cases h with
  | str y l => exact .str y l
  | no h np => exact .no (h.updL e) np
theorem RV.updL {H : Hp} {p l : Addr} {m : Nat} {xs ys : List V} {v : V} (h : RV H p m v) (e : H l = some (.lst xs)) : RV (upd H l (.lst ys)) p m v := by
  cases h with
  | str y => exact .str y
  | no h n np => exact .no (h.updL e) n np
  | tup h np ll it => exact .tup (by rw [upd_ne (fun q => by rw [q, e] at h; cases h)]; exact h) np ll fun x hx => (it x hx).updL e
def spSp : Sp := fun vs0 H Q _ => ∃ (p c l : Addr) (ns : List Int) (n m : Nat) (vs : List V), vs0 = [.ref p, .ref l] ∧ Pen H p c ns n ∧ n + 160 ≤ 100000 ∧ H l = some (.lst vs) ∧ l ≠ p ∧ vs.length ≤ 64 ∧ (∀ v ∈ vs, RV H p m v) ∧ m ≤ 60 ∧
  ∀ (l' : Addr) (vs' : List V) (H' : Hp), H' l' = some (.lst vs') → l' ≠ p → vs'.length = vs.length → (∀ v ∈ vs', RV H' p (m + 6) v) → Keep p H H' → Pen H' p c ns (n + 100) → Q (.ref l') H'
section
variable {P : Program} {w : World} {K : PySem.W.Frag} {mg : Str → Option Value} {base : Heap}
theorem scSp : FnScope nSp ["_law_pen_here", "_law_rows_here"] (defScope sSp) := ⟨rfl, rfl, rfl, by decide +kernel, rfl, by decide +kernel, by decide +kernel⟩
set_option maxHeartbeats 1000000 in
theorem ok_sp {f fD fT : Addr} {fd fdD fdT : FuncData} (F : Fun K "_law_spoiled" "_law_spoiled" sSp f fd) (T : Bi mg) (D : Df K mg "_law_draw" sDraw fD fdD ["_law_pen_here", "_law_many"]) (GD : FnOk P w K mg base CX0 1 fD fdD ["_law_pen_here", "_law_many"] spDraw)
    (BT : Df K mg "_law_bent" sBt fT fdT ["_law_pen_here", "_law_rows_here", "_law_k"]) (GT : FnOk P w K mg base CX0 4 fT fdT ["_law_pen_here", "_law_rows_here", "_law_k"] spBt) :
    FnOk P w K mg base CX0 5 f fd ["_law_pen_here", "_law_rows_here"] spSp := by
  refine F.ok scSp (fun vs H Q E h => ?_) (fun cdv A outer s H vs Q E hr h => ?_)
  · obtain ⟨p, c, l, ns, n, m, vs, rfl, _⟩ := h
    rfl
  · obtain ⟨p, c, l, ns, n, m, vs, rfl, P0, hn, hl, nl, h64, hv, h60, kQ⟩ := h
    have hr1 : Room 1 _ := hr.mono (by decide)
    have hr4 : Room 4 _ := hr
    have hu := hu_of hr
    have hcu := Nat.lt_of_succ_lt hu
    refine ⟨_, (pss_cons (ps_set (i := 2) scSp.nd rfl (Or.inl rfl) (pe_callTy call_list_of (by rfl) T.list (by decide +kernel) (pa_cons (pv 1) pa_nil)))
      (pss_cons (ps_if (pt_cmpR (op_neL0 hcu) (pv 2) (pe_lst pa_nil) (nomark _))
      (pss_one (ps_for PassesOwn.never rfl (pi_range1 rfl T.range (pa_cons (pe_call GD hr1 (by rfl) D.m D.F.kp D.b .nil pass0 (pa_cons (pv 0) (pa_cons pe_int pa_nil))) pa_nil)) (pg_name (i := 3) scSp.nd rfl (Or.inl rfl))
        (pss_cons (ps_set (i := 4) scSp.nd rfl (Or.inl rfl) (pe_call GD hr1 (by rfl) D.m D.F.kp D.b .nil pass0 (pa_cons (pv 0) (pa_cons (pe_callB call_len_seq (by rfl) T.len PySem.boot_len (pa_cons (pv 2) pa_nil)) pa_nil))))
          (pss_cons (ps_set (i := 5) scSp.nd rfl (Or.inl rfl) (pe_ix ix_list (pv 2) (pv 4) (fun _ _ => rfl)))
          (pss_one (ps_if (PW.pt (pw_and (pt_val (pe_callB call_isi (by rfl) T.isinstance (by decide +kernel) (pa_cons (pv 5) (pa_cons (pe_bltn (v := .ty "tuple") (by rfl) T.tuple (by decide +kernel) rfl) pa_nil)))) (pw_and (pt_cmpR (op_neT0 hcu) (pv 5) (pe_tup pa_nil) (nomark _)) (pw_and1 (pt_val (pe_callB call_isi (by rfl) T.isinstance (by decide +kernel) (pa_cons (pe_ix ix_tup (pv 5) pe_int (fun _ _ => rfl)) (pa_cons (pe_bltn (v := .ty "str") (by rfl) T.str (by decide +kernel) rfl) pa_nil))))))))
          (pss_one (ps_asg (pe_call GT hr4 (by rfl) BT.m BT.F.kp BT.b .nil pass0 (pa_cons (pv 0) (pa_cons (pv 2) (pa_cons (pv 4) pa_nil)))) (pg_sub (pv 2) (pv 4) set_list)))
          pss_nil))))))
      pss_nil)
      (pss_one (ps_ret (pv 2))))), ?_⟩
    refine ⟨_, rfl, l, _, rfl, .inl (SqL.of hl), fun q hq => ?_⟩
    have nq : q ≠ p := (P0.pne hq).symm
    have s1 : Same H (upd H q (.lst vs)) := (Same.refl H).put hq
    have e1 : (upd H q (.lst vs)) q = some (.lst vs) := upd_same
    generalize upd H q (.lst vs) = H1 at s1 e1 ⊢
    refine ⟨_, rfl, Nat.zero_le _, fun z hz => ?_⟩
    have s2 := s1.put (o := .lst []) (s1.free hz)
    have e2 : (upd H1 z (.lst [])) q = some (.lst vs) := by rw [upd_ne (ne_of_none e1 hz)]; exact e1
    refine ⟨q, z, _, rfl, rfl, SqL.of e2, SqL.of upd_same, _, rfl, ite2 (fun h0 => ?_) (fun h0 => ?_)⟩
    case refine_2 =>
      have h0 : vs = [] := by
        cases vs with
        | nil => rfl
        | cons _ _ => exact absurd rfl h0
      have s3 : Same H (upd H1 z (.lst [])) := s2
      exact ⟨_, rfl, kQ q vs _ e2 nq rfl (fun v h => by rw [h0] at h; cases h) s3.keep ((P0.same s3).mono (by omega))⟩
    have vpos : 0 < vs.length := by
      cases vs with
      | nil => cases h0
      | cons _ _ => exact Nat.zero_lt_succ _
    generalize upd H1 z (.lst []) = H2 at s2 e2 ⊢
    have hv2 : ∀ v ∈ vs, RV H2 p m v := fun v h => (hv v h).keep s2.keep
    have P2 := P0.same s2
    refine ⟨_, rfl, p, c, ns, n, 4, rfl, P2, by omega, by decide, by decide, fun dt H3 t0 t1 k3 P3 => ?_⟩
    obtain ⟨tn, rfl⟩ : ∃ j : Nat, dt = (j : Int) := ⟨dt.toNat, (Int.toNat_of_nonneg t0).symm⟩
    have ht : tn < 4 := by omega
    refine ⟨_, rfl, by omega, by omega, for_range (lo := 0) (n := tn) (fun i σ Hc => ∃ (v3 v4 v5 : Option V) (us : List V), σ = [some (.ref p), some (.ref l), some (.ref q), v3, v4, v5] ∧ Hc q = some (.lst us) ∧ us.length = vs.length ∧ (∀ v ∈ us, RV Hc p (m + 2 * i) v) ∧ Keep p H Hc ∧ Pen Hc p c ns (n + 1 + 25 * i)) ?_ ?_ ?_⟩
    · exact ⟨_, _, _, vs, rfl, k3 _ _ e2 nq, rfl, fun v h => (hv2 v h).keep k3, s2.keep.trans k3, P3⟩
    · rintro i σ Hc hi ⟨v3, v4, v5, us, rfl, g1, g2, g3, kc, Pc⟩
      have i3 : i ≤ 2 := by omega
      refine ⟨_, rfl, _, rfl, q, _, rfl, .inl (SqL.of g1), p, c, ns, _, _, rfl, Pc, by omega, by omega, by omega, fun dk H4 d0 d1 k4 P4 => ?_⟩
      obtain ⟨k, rfl⟩ : ∃ j : Nat, dk = (j : Int) := ⟨dk.toNat, (Int.toNat_of_nonneg d0).symm⟩
      have hk : k < us.length := by omega
      have huk : us[k]? = some us[k] := List.getElem?_eq_getElem hk
      have g14 := k4 _ _ g1 nq
      have g34 : ∀ v ∈ us, RV H4 p (m + 2 * i) v := fun v h => (g3 v h).keep k4
      have rv := g34 us[k] (List.getElem_mem hk)
      generalize us[k] = u at huk rv
      refine ⟨_, rfl, _, rfl, q, _, (k : Int), _, rfl, rfl, SqL.of g14, atI_nat huk, ?_⟩
      have skip : ∀ {H5 : Hp}, Keep p H4 H5 → Pen H5 p c ns (n + 1 + 25 * i + 1) → ∃ (v3 v4 v5 : Option V) (us : List V), ([some (.ref p), some (.ref l), some (.ref q), some (.int (0 + (i : Int))), some (.int (k : Int)), some u] : St) = [some (.ref p), some (.ref l), some (.ref q), v3, v4, v5] ∧ H5 q = some (.lst us) ∧ us.length = vs.length ∧ (∀ v ∈ us, RV H5 p (m + 2 * (i + 1)) v) ∧ Keep p H H5 ∧ Pen H5 p c ns (n + 1 + 25 * (i + 1)) :=
        fun k5 P5 => ⟨_, _, _, us, rfl, k5 _ _ g14 nq, g2, fun v h => ((g34 v h).keep k5).mono (by omega), (kc.trans k4).trans k5, P5.mono (by omega)⟩
      cases rv with
      | str y => exact ⟨_, rfl, _, _, _, _, false, rfl, .ty _, .base (.str _), kit_ty (by decide +kernel), _, rfl, iteF (skip (Keep.refl _ _) P4)⟩
      | no h nn np => exact ⟨_, rfl, _, _, _, _, false, rfl, .ty _, h.ty, h.kitT nn, _, rfl, iteF (skip (Keep.refl _ _) P4)⟩
      | tup h np ll it =>
        rename_i a' xs'
        refine ⟨_, rfl, _, _, _, _, true, rfl, .ty _, .base (.tup h), kit_ty (by decide +kernel), _, rfl, iteT ⟨_, rfl, Nat.zero_le _, fun e0 he0 => ?_⟩⟩
        have s5 : Same H4 (upd H4 e0 (.tup [])) := (Same.refl H4).put he0
        refine ⟨a', e0, xs', rfl, rfl, SqT.of (s5 _ _ h), SqT.of upd_same, _, rfl, ?_⟩
        generalize upd H4 e0 (.tup []) = H5 at s5 ⊢
        cases xs' with
        | nil => exact iteF (skip s5.keep (P4.same s5))
        | cons x0 r0 =>
          refine iteT ⟨_, rfl, a', _, _, x0, rfl, rfl, SqT.of (s5 _ _ h), atI_nat (j := 0) rfl, ?_⟩
          cases it x0 List.mem_cons_self with
          | no hx npx =>
            exact ⟨_, _, _, _, false, rfl, .ty _, (hx.keep npx s5.keep).ty, hx.kitS, _, rfl, iteF (skip s5.keep (P4.same s5))⟩
          | str y0 ly =>
            refine ⟨_, _, _, _, true, rfl, .ty _, .base (.str _), kit_ty (by decide +kernel), _, rfl, iteT ?_⟩
            refine ⟨_, rfl, _, rfl, _, rfl, p, c, q, ns, _, k, m + 2 * i, us, a', V.str y0 :: r0, y0, rfl, P4.same s5, by omega, s5 _ _ g14, nq, by omega, fun v hv => (g34 v hv).keep s5.keep, by omega, huk, s5 _ _ h, rfl, fun v H6 rv6 k6 P6 => ?_⟩
            have g16 := k6 _ _ (s5 _ _ g14) nq
            refine ⟨_, rfl, _, rfl, q, us, (k : Int), k, rfl, rfl, g16, (by unfold ixN; rw [if_pos (by omega), if_pos (by omega)]; simp), ?_⟩
            refine ⟨_, _, _, us.set k v, rfl, upd_same, by rw [List.length_set]; exact g2, fun x hx => ?_, fun b o hb nb => ?_, (P6.upd' nq.symm (P0.cne hq)).mono (by omega)⟩
            · refine RV.updL (xs := us) ?_ g16
              rcases List.mem_or_eq_of_mem_set hx with hx | rfl
              · exact (((g34 x hx).keep s5.keep).keep k6).mono (by omega)
              · exact rv6
            · rw [upd_ne (ne_of_none hb hq)]
              exact (((kc.trans k4).trans s5.keep).trans k6) b o hb nb
    · rintro σ Hc ⟨v3, v4, v5, us, rfl, g1, g2, g3, kc, Pc⟩
      exact ⟨_, rfl, kQ q us Hc g1 nq g2 (fun v h => (g3 v h).mono (by omega)) kc (Pc.mono (by omega))⟩
end
end K2
end
section
set_option Elab.async false
set_option maxRecDepth 100000
set_option linter.all false
namespace K2
open PySem L2
abbrev sDue : Stmt := top 41
abbrev nDue : List Str := ["_law_rows_here", "_law_known", "_law_k", "_law_row_here", "_law_word", "_law_odd_here", "_law_base"]
/-- some rows, up to the first that has a fault, with its reason -/
structure Split (K : PySem.W.Frag) (H : Hp) (vs : List V) (rs : List Row) (o : Option Str) : Prop where
  g : Good rs
  l : rs.length ≤ 30
  nar : ∀ r ∈ rs, r.2.length ≤ 60
  ex : ∃ ts : List Addr, RowsAt H ts rs ∧ ((o = none ∧ vs = ts.map V.ref) ∨ ∃ (r : Str) (v : V) (more : List V), o = some r ∧ vs = ts.map V.ref ++ v :: more ∧ FaultV K H (keys (ups rs)) v rs.length r)
theorem wd_true {K : PySem.W.Frag} {H : Hp} {v : V} {b : Bool} (h : WdV K H v b) (e : b = true) : ∃ y, v = .str y ∧ VW y := by
  cases h with
  | str x l => exact ⟨x, rfl, isW_vw e⟩
  | no => cases e
theorem wd_all {K : PySem.W.Frag} {H : Hp} {p : Addr} : ∀ xs : List V, (∀ x ∈ xs, It H p x) → ∃ bs, WdAll K H xs bs ∧ (bs.all id = true → ∃ ys : List Str, xs = ys.map V.str ∧ ∀ y ∈ ys, VW y)
  | [], _ => ⟨[], ⟨rfl, fun i x b h => by simp at h⟩, fun _ => ⟨[], rfl, fun y h => by cases h⟩⟩
  | x :: xs, h => by
    obtain ⟨bs, W, e⟩ := wd_all (K := K) xs fun y hy => h y (List.mem_cons_of_mem _ hy)
    obtain ⟨b, hb⟩ := (h x List.mem_cons_self).wd (K := K)
    refine ⟨b :: bs, ⟨by simp [W.1], fun i y c h1 h2 => ?_⟩, fun q => ?_⟩
    · cases i with
      | zero =>
        cases h1
        cases h2
        exact hb
      | succ i => exact W.2 i y c h1 h2
    · have q2 := Bool.and_eq_true_iff.mp (show (id b && bs.all id) = true from q)
      obtain ⟨y, rfl, vy⟩ := wd_true hb q2.1
      obtain ⟨ys, rfl, vs⟩ := e q2.2
      refine ⟨y :: ys, rfl, fun z hz => ?_⟩
      rcases List.mem_cons.mp hz with rfl | hz
      · exact vy
      · exact vs z hz
theorem split_from {K : PySem.W.Frag} {H : Hp} {p : Addr} {m : Nat} (hm : m ≤ 61) : ∀ (vs : List V) (ts : List Addr) (rs : List Row), Good rs → rs.length ≤ 30 → (∀ r ∈ rs, r.2.length ≤ 60) → RowsAt H ts rs → (∀ v ∈ vs, RV H p m v) → ∃ rs' o, Split K H (ts.map V.ref ++ vs) rs' o
  | [], ts, rs, g, l, na, R, _ => ⟨rs, none, g, l, na, ts, R, .inl ⟨rfl, by simp⟩⟩
  | v :: more, ts, rs, g, l, na, R, h => by
    have bad : ∀ r, FaultV K H (keys (ups rs)) v rs.length r → ∃ rs' o, Split K H (ts.map V.ref ++ v :: more) rs' o := fun r F => ⟨rs, some r, g, l, na, ts, R, .inr ⟨r, v, more, rfl, rfl, F⟩⟩
    by_cases h30 : rs.length = 30
    · exact bad "many" (by rw [h30]; exact .many v)
    have hn : rs.length < 30 := by omega
    cases h v List.mem_cons_self with
    | str y => exact bad "row" (.row1 hn (.base (.str _)) (kit_ty (by decide +kernel)))
    | no q n np => exact bad "row" (.row1 hn q.ty (q.kitT n))
    | tup q np ll it =>
      rename_i a xs
      by_cases l2 : xs.length < 2
      · exact bad "row" (.row2 hn q l2)
      obtain ⟨bs, W, e⟩ := wd_all (K := K) xs it
      cases hb : bs.all id with
      | false => exact bad "row" (.row3 hn q (by omega) (by omega) W hb)
      | true =>
        obtain ⟨ys, rfl, vw⟩ := e hb
        cases ys with
        | nil => exact absurd (by simp) l2
        | cons x us =>
          rw [List.length_map, List.length_cons] at ll l2
          have une : us ≠ [] := fun z => by rw [z] at l2; simp at l2
          by_cases hx : x ∈ keys (ups rs)
          · exact bad "name" (.name hn q une (by omega) vw hx)
          by_cases hs : ∀ b ∈ us, b ∈ keys (ups rs)
          · by_cases nd : us.Nodup
            · have ok : RowOk (base0 ++ rs.map (·.1)) (x, us) := by
                rw [keys_ups] at hx hs
                exact ⟨vw x List.mem_cons_self, hx, une, nd, hs⟩
              have := split_from (K := K) hm more (ts ++ [a]) (rs ++ [(x, us)]) (good_snoc g ok) (by simp; omega) (fun r hr => ?_) (R.snoc q) fun v hv => h v (List.mem_cons_of_mem _ hv)
              · rwa [List.map_append, List.append_assoc] at this
              · rcases List.mem_append.mp hr with hr | hr
                · exact na r hr
                · rw [List.mem_singleton.mp hr]
                  show us.length ≤ 60
                  omega
            · exact bad "base" (.base hn q une (by omega) vw hx (.inr nd))
          · refine bad "base" (.base hn q une (by omega) vw hx (.inl ?_))
            by_cases z : ∃ b, b ∈ us ∧ b ∉ keys (ups rs)
            · exact z
            · exact absurd (fun b hb => Decidable.byContradiction fun q => z ⟨b, hb, q⟩) hs
theorem Split.same {K : PySem.W.Frag} {H H' : Hp} {vs : List V} {rs : List Row} {o : Option Str} (h : Split K H vs rs o) (s : Same H H') : Split K H' vs rs o := by
  obtain ⟨ts, R, e⟩ := h.ex
  refine ⟨h.g, h.l, h.nar, ts, R.mono fun b r e => s b _ e, ?_⟩
  rcases e with e | ⟨r, v, more, e1, e2, F⟩
  · exact .inl e
  · exact .inr ⟨r, v, more, e1, e2, F.same s⟩
theorem due_cases {K : PySem.W.Frag} {H : Hp} {vs : List V} {rs : List Row} {o : Option Str} {ts : List Addr} {i : Nat} {v : V} (S : Split K H vs rs o) (R : RowsAt H ts rs)
    (hex : (o = none ∧ vs = ts.map V.ref) ∨ ∃ (r : Str) (v : V) (more : List V), o = some r ∧ vs = ts.map V.ref ++ v :: more ∧ FaultV K H (keys (ups rs)) v rs.length r) (ivs : vs[i]? = some v) (hir : i ≤ rs.length) :
    (i = 30 ∧ i = rs.length ∧ o = some ("many" : Str)) ∨ (i < 30 ∧ ∃ t, TyX K H v t ∧ PySem.W.kitOne K t (.type "tuple") = some false ∧ i = rs.length ∧ o = some ("row" : Str)) ∨ (i < 30 ∧ ∃ (a : Addr) (xs : List V), v = .ref a ∧ H a = some (.tup xs) ∧ xs.length < 2 ∧ i = rs.length ∧ o = some ("row" : Str)) ∨
    (i < 30 ∧ ∃ (a : Addr) (xs : List V) (bits : List Bool), v = .ref a ∧ H a = some (.tup xs) ∧ 2 ≤ xs.length ∧ xs.length ≤ 100 ∧ WdAll K H xs bits ∧ (bits.all id = false → i = rs.length ∧ o = some ("row" : Str)) ∧
      (bits.all id = true → ∃ (x : Str) (us : List Str), xs = (x :: us).map V.str ∧ us ≠ [] ∧ us.length ≤ 60 ∧ (∀ y ∈ x :: us, VW y) ∧ (x ∈ knownAt rs i → i = rs.length ∧ o = some ("name" : Str)) ∧ (x ∉ knownAt rs i → ((∃ b ∈ us, b ∉ knownAt rs i) ∨ ¬ us.Nodup) → i = rs.length ∧ o = some ("base" : Str)) ∧
        (x ∉ knownAt rs i → (∀ b ∈ us, b ∈ knownAt rs i) → us.Nodup → i + 1 ≤ rs.length ∧ knownAt rs (i + 1) = knownAt rs i ++ [x]))) := by
  have tt : ∀ xs : List Str, (xs.map fun _ => true).all id = true := fun xs => by simp
  rcases Nat.lt_or_ge i rs.length with hin | hge
  · refine .inr (.inr (.inr ⟨Nat.lt_of_lt_of_le hin S.l, ?_⟩))
    obtain ⟨⟨x, us⟩, hri⟩ : ∃ r : Row, rs[i]? = some r := ⟨_, List.getElem?_eq_getElem hin⟩
    have hti : ts[i]? = some (ts[i]'(by rw [R.1]; exact hin)) := List.getElem?_eq_getElem _
    have hv : v = .ref (ts[i]'(by rw [R.1]; exact hin)) := by
      have h1 : (ts.map V.ref)[i]? = some v := by
        rcases hex with ⟨_, e⟩ | ⟨r, v', more, _, e, _⟩
        · rw [← e]; exact ivs
        · rw [e, List.getElem?_append_left (by rw [List.length_map, R.1]; exact hin)] at ivs
          exact ivs
      rw [List.getElem?_map, hti] at h1
      exact (Option.some.inj h1).symm
    have hat := R.2 i _ _ hti hri
    have ok := S.g i _ hri
    have nar := S.nar _ (List.mem_of_getElem? hri)
    have ks := knownAt_succ hri
    generalize ts[i]'(by rw [R.1]; exact hin) = a at hv hat
    have vw : ∀ y ∈ x :: us, VW y := fun y hy => by
      rcases List.mem_cons.mp hy with rfl | hy
      · exact ok.vw
      · exact S.g.vw_known i y (ok.sub y hy)
    have une := List.length_pos_iff.mpr ok.ne
    refine ⟨a, _, _, hv, hat, ?_, ?_, .vw vw, fun q => ?_, fun _ => ⟨x, us, rfl, ok.ne, nar, vw, fun hx => absurd hx ok.new, fun _ hb => ?_, fun _ _ _ => ⟨hin, ks⟩⟩⟩
    · rw [List.length_map, List.length_cons]
      show 2 ≤ us.length + 1
      have : 0 < us.length := une
      omega
    · rw [List.length_map, List.length_cons]
      show us.length + 1 ≤ 100
      have : us.length ≤ 60 := nar
      omega
    · rw [tt] at q
      cases q
    · rcases hb with ⟨b, h1, h2⟩ | h
      · exact absurd (ok.sub b h1) h2
      · exact absurd ok.nd h
  · obtain rfl : i = rs.length := by omega
    rcases hex with ⟨_, e2⟩ | ⟨r, v', more, eo, e2, FV⟩
    · have := (List.getElem?_eq_some_iff.mp ivs).1
      rw [e2, List.length_map, R.1] at this
      omega
    have hvv : v' = v := by
      rw [e2, List.getElem?_append_right (by rw [List.length_map, R.1]; exact Nat.le_refl _), List.length_map, R.1, Nat.sub_self] at ivs
      exact Option.some.inj ivs
    subst hvv
    rw [keys_ups] at FV
    have hkk : base0 ++ rs.map (·.1) = knownAt rs rs.length := by unfold knownAt; rw [List.take_length]
    rw [hkk] at FV
    generalize hnn : rs.length = n at *
    cases FV with
    | many v => exact .inl ⟨rfl, rfl, eo⟩
    | row1 hn ty kk => exact .inr (.inl ⟨hn, _, ty, kk, rfl, eo⟩)
    | row2 hn ht ll => exact .inr (.inr (.inl ⟨hn, _, _, rfl, ht, ll, rfl, eo⟩))
    | row3 hn ht ll l2 wd no => exact .inr (.inr (.inr ⟨hn, _, _, _, rfl, ht, ll, l2, wd, fun _ => ⟨rfl, eo⟩, fun q => by rw [no] at q; cases q⟩))
    | name hn ht une l2 vw hx =>
      have up := List.length_pos_iff.mpr une
      exact .inr (.inr (.inr ⟨hn, _, _, _, rfl, ht, by simp; omega, by simp; omega, .vw vw, fun q => (by rw [tt] at q; cases q), fun _ => ⟨_, _, rfl, une, l2, vw, fun _ => ⟨rfl, eo⟩, fun n => absurd hx n, fun n => absurd hx n⟩⟩))
    | base hn ht une l2 vw hx hb =>
      have up := List.length_pos_iff.mpr une
      refine .inr (.inr (.inr ⟨hn, _, _, _, rfl, ht, by simp; omega, by simp; omega, .vw vw, fun q => (by rw [tt] at q; cases q), fun _ => ⟨_, _, rfl, une, l2, vw, fun n => absurd n hx, fun _ _ => ⟨rfl, eo⟩, fun _ a1 a2 => ?_⟩⟩))
      rcases hb with ⟨b, h1, h2⟩ | h
      · exact absurd (a1 b h1) h2
      · exact absurd a2 h
def spDue (K : PySem.W.Frag) : Sp := fun vs0 H Q _ => ∃ (l : Addr) (vs : List V) (rs : List Row) (o : Option Str), vs0 = [.ref l] ∧ H l = some (.lst vs) ∧ vs.length ≤ 64 ∧ Split K H vs rs o ∧
  (o = none → ∀ H', Same H H' → Q .non H') ∧ ∀ r, o = some r → ∀ (t : Addr) (H' : Hp), Same H H' → H' t = some (.tup [.str "CLASS", .str r, .int (rs.length : Nat)]) → Q (.ref t) H'
section
variable {P : Program} {w : World} {K : PySem.W.Frag} {mg : Str → Option Value} {base : Heap}
theorem scDue : FnScope nDue ["_law_rows_here"] (defScope sDue) := ⟨rfl, rfl, rfl, by decide +kernel, rfl, by decide +kernel, by decide +kernel⟩
set_option maxHeartbeats 1000000 in
theorem ok_due {f fW : Addr} {fd fdW : FuncData} (F : Fun K "_law_due" "_law_due" sDue f fd) (T : Bi mg) (TS : mg "sorted" = none) (LW : Df K mg "_law_is_word" sLW fW fdW ["_law_thing"]) (GW : FnOk P w K mg base CX0 2 fW fdW ["_law_thing"] (spLW K)) :
    FnOk P w K mg base CX0 3 f fd ["_law_rows_here"] (spDue K) := by
  refine F.ok scDue (fun vs H Q E h => ?_) (fun cdv A outer s H vs Q E hr h => ?_)
  · obtain ⟨l, vs, rs, o, rfl, _⟩ := h
    rfl
  · obtain ⟨l, vs, rs, o, rfl, hl, h64, S, kN, kR⟩ := h
    have hr2 : Room 2 _ := hr
    have hu := hu_of hr
    have hcu := Nat.lt_of_succ_lt hu
    obtain ⟨ts, R, hex⟩ := S.ex
    refine ⟨_, (pss_cons (ps_set (i := 1) scDue.nd rfl (Or.inr rfl) (pe_lst (pa_cons pe_str (pa_cons pe_str pa_nil))))
      (pss_cons (ps_for PassesOwn.never rfl (pi_range1 rfl T.range (pa_cons (pe_callB call_len_seq (by rfl) T.len PySem.boot_len (pa_cons (pv 0) pa_nil)) pa_nil)) (pg_name (i := 2) scDue.nd rfl (Or.inl rfl))
      (pss_cons (ps_set (i := 3) scDue.nd rfl (Or.inl rfl) (pe_ix ix_list (pv 0) (pv 2) (fun _ _ => rfl)))
        (pss_cons (ps_if (pt_cmpR op_eq (pv 2) pe_int (nomark _))
        (pss_one (ps_ret (pe_tup (pa_cons pe_str (pa_cons pe_str (pa_cons (pv 2) pa_nil))))))
        pss_nil)
        (pss_cons (ps_if (PW.pt (pw_or (pt_not (pt_val (pe_callB call_isi (by rfl) T.isinstance (by decide +kernel) (pa_cons (pv 3) (pa_cons (pe_bltn (v := .ty "tuple") (by rfl) T.tuple (by decide +kernel) rfl) pa_nil))))) (pw_or1 (pt_cmpR op_lt (pe_callB call_len_seq (by rfl) T.len PySem.boot_len (pa_cons (pv 3) pa_nil)) pe_int (nomark _)))))
        (pss_one (ps_ret (pe_tup (pa_cons pe_str (pa_cons pe_str (pa_cons (pv 2) pa_nil))))))
        pss_nil)
        (pss_cons (ps_if (pt_cmpR (op_neL0 hcu) (pe_lc (own := [("_law_word", 4)]) (g := gName 4)  rfl scDue.nd (pi_tup (pv 3)) (blkOk_by (N := nDue) (sc := defScope sDue) (by decide +kernel)) (fun _ _ _ _ _ => pg_name (i := 4) scDue.nd rfl (Or.inl rfl)) (fun _ _ _ _ _ => pts_one (pt_not (pt_val (pe_call GW hr2 (by rfl) LW.m LW.F.kp LW.b .nil pass0 (pa_cons (pv 4) pa_nil))))) (fun _ _ _ _ _ => pv 4)) (pe_lst pa_nil) (nomark _))
        (pss_one (ps_ret (pe_tup (pa_cons pe_str (pa_cons pe_str (pa_cons (pv 2) pa_nil))))))
        pss_nil)
        (pss_cons (ps_if (pt_cmpR op_in_seq (pe_ix ix_tup (pv 3) pe_int (fun _ _ => rfl)) (pv 1) rfl)
        (pss_one (ps_ret (pe_tup (pa_cons pe_str (pa_cons pe_str (pa_cons (pv 2) pa_nil))))))
        pss_nil)
        (pss_cons (ps_setLc (i := 5) (own := [("_law_base", 6)]) (g := gName 6)  rfl scDue.nd rfl rfl (sw_true rfl rfl rfl (by decide +kernel)) (pi_tup (pe_slice sl_tup2 (pv 3) (po_some pe_int) po_none)) (blkOk_by (N := nDue) (sc := defScope sDue) (by decide +kernel)) (fun _ _ _ _ _ => pg_name (i := 6) scDue.nd rfl (Or.inl rfl)) (fun _ _ _ _ _ => pts_one (pt_cmpR (op_notIn_seqK (K' := K) rfl) (pv 6) (pv 1) rfl)) (fun _ _ _ _ _ => pv 6))
        (pss_cons (ps_if (PW.pt (pw_or (pt_cmpR (op_neL0 hcu) (pv 5) (pe_lst pa_nil) (nomark _)) (pw_or1 (pt_cmpR (op_neD hr.units) (pe_sortedSetT (by rfl) TS (by rfl) T.set (pe_slice sl_tup2 (pv 3) (po_some pe_int) po_none)) (pe_callB cr_sortedST (by rfl) TS (by decide +kernel) (pa_cons (pe_slice sl_tup2 (pv 3) (po_some pe_int) po_none) pa_nil)) (nomark _)))))
        (pss_one (ps_ret (pe_tup (pa_cons pe_str (pa_cons pe_str (pa_cons (pv 2) pa_nil))))))
        pss_nil)
        (pss_one (ps_expr (pe_bm PySem.F.plainAttrs_list PySem.F.slot_list_append PySem.F.type_list_append mt_append (pv 1) (pa_cons (pe_ix ix_tup (pv 3) pe_int (fun _ _ => rfl)) pa_nil))))))))))))
      (pss_one (ps_ret pe_non)))), ?_⟩
    refine ⟨(by show 2 ≤ sizeLine; decide), fun lk hlk => ?_⟩
    refine ⟨_, rfl, l, _, rfl, .inl (SqL.of (by rw [upd_ne (ne_of_none hl hlk)]; exact hl)), _, rfl, by omega, by omega, for_range (lo := 0) (n := vs.length) (fun i σ Hc => ∃ (v2 v3 v4 v5 v6 : Option V), σ = [some (.ref l), some (.ref lk), v2, v3, v4, v5, v6] ∧ i ≤ rs.length ∧ Hc lk = some (.lst ((knownAt rs i).map V.str)) ∧ Same H Hc) ?_ ?_ ?_⟩
    · exact ⟨_, _, _, _, _, rfl, Nat.zero_le _, upd_same, (Same.refl H).put hlk⟩
    · rintro i σ Hc hi ⟨v2, v3, v4, v5, v6, rfl, hir, hk, sm⟩
      -- the faults' answers
      have kR' : ∀ (r : Str) (v : V) (n : Nat), n = rs.length → o = some r → ∀ {H' : Hp}, Same H H' → ∀ t, H' t = none → Q (.ref t) (upd H' t (.tup [.str "CLASS", .str r, .int (0 + (n : Int))])) := fun r v n en eo H' s' t ht => by
        refine kR r eo t _ (s'.put (s'.free ht)) ?_
        rw [upd_same, Int.zero_add, en]
      have ivs : vs[i]? = some vs[i] := List.getElem?_eq_getElem hi
      generalize hv : vs[i] = v at ivs
      have hlc := sm _ _ hl
      have n30 : i < 30 → ¬ (decide (V.int (0 + (i : Int)) = V.int 30) = true) := fun h q => by
        have e := V.int.inj (of_decide_eq_true q)
        omega
      have isT : ∀ {a : Addr} {xs : List V} {H : Hp}, H a = some (.tup xs) → TyX K H (.ref a) (.type "tuple") := fun h => .base (.tup h)
      have cls := due_cases S R hex ivs hir
      refine ⟨_, rfl, _, rfl, l, _, _, _, rfl, rfl, SqL.of hlc, (by rw [Int.zero_add]; exact atI_nat ivs), ?_⟩
      rcases cls with ⟨h30, en, eo⟩ | ⟨hn, t, ty, kk, en, eo⟩ | ⟨hn, a, xs, rfl, ht, ll, en, eo⟩ | ⟨hn, a, xs, bits, rfl, ht, l2, l100, W, hF, hT⟩
      · exact ⟨_, rfl, rfl, _, rfl, ite2 (fun _ => ⟨_, rfl, (by show 3 ≤ sizeLine; decide), fun t ht => kR' _ v _ en eo sm t ht⟩) fun h => absurd (by rw [h30]; exact decide_eq_true rfl) h⟩
      · refine ⟨_, rfl, rfl, _, rfl, ite2 (fun h0 => absurd h0 (n30 hn)) fun _ => ?_⟩
        exact ⟨_, rfl, _, _, _, _, false, rfl, .ty _, ty.same sm, kk, _, rfl, iteT ⟨_, rfl, (by show 3 ≤ sizeLine; decide), fun t ht => kR' _ v _ en eo sm t ht⟩⟩
      · refine ⟨_, rfl, rfl, _, rfl, ite2 (fun h0 => absurd h0 (n30 hn)) fun _ => ?_⟩
        refine ⟨_, rfl, _, _, _, _, true, rfl, .ty _, isT (sm _ _ ht), kit_ty (by decide +kernel), _, rfl, ?_⟩
        refine ⟨_, rfl, a, _, rfl, .inr (SqT.of (sm _ _ ht)), _, _, rfl, rfl, _, rfl, ite2 (fun _ => ⟨_, rfl, (by show 3 ≤ sizeLine; decide), fun t ht => kR' _ (.ref a) _ en eo sm t ht⟩) (fun h0 => ?_)⟩
        exact absurd (decide_eq_true (by omega)) h0
      · have hta := sm _ _ ht
        refine ⟨_, rfl, rfl, _, rfl, ite2 (fun h0 => absurd h0 (n30 hn)) fun _ => ?_⟩
        refine ⟨_, rfl, _, _, _, _, true, rfl, .ty _, isT hta, kit_ty (by decide +kernel), _, rfl, ?_⟩
        refine ⟨_, rfl, a, _, rfl, .inr (SqT.of hta), _, _, rfl, rfl, _, rfl, ite2 (fun h0 => ?_) (fun _ => ?_)⟩
        · have := of_decide_eq_true h0
          omega
        refine ⟨_, rfl, a, rfl, ⟨_, SqT.of hta⟩, fun D hD => ?_⟩
        refine lc_tup (K := K) (a := a) (xs := xs) (fun i Hd => ∃ zs : List V, Hd D = some (.lst zs) ∧ zs.length ≤ i ∧ zs.isEmpty = (bits.take i).all id ∧ Same Hc Hd) ?_ ?_ ?_ ?_
        · exact ⟨[], upd_same, Nat.le_refl _, rfl, (Same.refl Hc).put hD⟩
        · rintro i Hd _ ⟨_, _, _, _, sd⟩
          exact SqT.of (sd a _ hta)
        · rintro j y Hd hy ⟨zs, g1, g2, g3, sd⟩
          have hjl : j < xs.length := (List.getElem?_eq_some_iff.mp hy).1
          have hbj : bits[j]? = some (bits[j]'(by rw [← W.1]; exact hjl)) := List.getElem?_eq_getElem _
          generalize bits[j]'(by rw [← W.1]; exact hjl) = b at hbj
          have et : (bits.take (j + 1)).all id = ((bits.take j).all id && b) := by
            rw [List.take_add_one, hbj]
            simp
          refine ⟨rfl, _, rfl, y, b, rfl, (W.2 j y b hy hbj).same (sm.trans sd), fun H2 s2 => ⟨_, rfl, ?_⟩⟩
          cases b with
          | true => exact iteF ⟨zs, s2 _ _ g1, by omega, by rw [et, g3, Bool.and_true], sd.trans s2⟩
          | false =>
            refine iteT ⟨_, rfl, zs, s2 _ _ g1, by show _ < 16777216; omega, zs ++ [y], upd_same, by rw [List.length_append]; show _ + 1 ≤ _; omega, by rw [et, Bool.and_false]; simp, (sd.trans s2).put hD⟩
        · rintro Hd ⟨zs, g1, g2, g3, sd⟩
          rw [W.1, List.take_length] at g3
          refine ⟨Nat.zero_le _, fun l3 hl3 => ?_⟩
          have s4 : Same Hd (upd Hd l3 (.lst [])) := (Same.refl Hd).put hl3
          refine ⟨D, l3, _, rfl, rfl, SqL.of (s4 _ _ g1), SqL.of upd_same, _, rfl, ?_⟩
          generalize upd Hd l3 (.lst []) = H3 at s4 ⊢
          have s3 : Same H H3 := (sm.trans sd).trans s4
          have sc3 : Same Hc H3 := sd.trans s4
          cases hb : bits.all id with
          | false =>
            obtain ⟨en, eo⟩ := hF hb
            rw [g3, hb]
            exact iteT ⟨_, rfl, (by show 3 ≤ sizeLine; decide), fun t ht => kR' _ (.ref a) _ en eo s3 t ht⟩
          | true =>
            obtain ⟨x, us, rfl, une, u60, vw, c1, c2, c3⟩ := hT hb
            rw [g3, hb]
            refine iteF ?_
            have hk3 := sc3 _ _ hk
            have ha3 := sc3 _ _ hta
            refine ⟨_, rfl, a, _, _, _, rfl, rfl, SqT.of ha3, atI_nat (j := 0) rfl, _, rfl, lk, _, rfl, .inl (SqL.of hk3), rfl, flat_strs _, _, rfl, ?_⟩
            rw [if_neg Bool.false_ne_true, inV_strs]
            by_cases hx : x ∈ knownAt rs i
            · obtain ⟨en, eo⟩ := c1 hx
              rw [decide_eq_true hx]
              exact iteT ⟨_, rfl, (by show 3 ≤ sizeLine; decide), fun t ht => kR' _ (.ref a) _ en eo s3 t ht⟩
            rw [decide_eq_false hx]
            refine iteF ?_
            -- the odd bases
            refine ⟨_, rfl, _, rfl, a, _, rfl, ha3, fun bp H4 s4' hbp => ?_⟩
            rw [cut1'] at hbp
            have s04 := s3.trans s4'
            refine ⟨bp, rfl, ⟨_, SqT.of hbp⟩, fun D2 hD2 => ?_⟩
            refine lc_tup (K := K) (a := bp) (xs := us.map V.str) (fun j Hd => Hd D2 = some (.lst (((us.take j).filter fun b => !decide (b ∈ knownAt rs i)).map V.str)) ∧ Same H4 Hd) ?_ ?_ ?_ ?_
            · exact ⟨upd_same, (Same.refl H4).put hD2⟩
            · rintro j He _ ⟨_, se⟩
              exact SqT.of (se bp _ hbp)
            · rintro j y He hy ⟨g4, se⟩
              have hju : j < us.length := by
                have := (List.getElem?_eq_some_iff.mp hy).1
                rwa [List.length_map] at this
              obtain ⟨b, hb⟩ : ∃ b, us[j]? = some b := ⟨_, List.getElem?_eq_getElem hju⟩
              rw [List.getElem?_map, hb] at hy
              have et : us.take (j + 1) = us.take j ++ [b] := by rw [List.take_add_one, hb]; rfl
              cases hy
              have hke : He lk = some (.lst ((knownAt rs i).map V.str)) := se _ _ (s4' _ _ hk3)
              refine ⟨rfl, _, rfl, _, rfl, lk, _, rfl, .inl (SqL.of hke), rfl, flat_strs _, _, rfl, ?_⟩
              rw [if_pos rfl, inV_strs]
              by_cases hbk : b ∈ knownAt rs i
              · rw [decide_eq_true hbk]
                refine iteF ⟨?_, se⟩
                rw [et, List.filter_append, List.filter_cons, if_neg (by rw [decide_eq_true hbk]; decide), List.filter_nil, List.append_nil]
                exact g4
              · rw [decide_eq_false hbk]
                refine iteT ⟨_, rfl, _, g4, ?_, ?_, se.put hD2⟩
                · rw [List.length_map]
                  have := List.length_filter_le (fun b => !decide (b ∈ knownAt rs i)) (us.take j)
                  rw [List.length_take] at this
                  show _ < 16777216
                  omega
                · rw [upd_same, et, List.filter_append, List.filter_cons, if_pos (by rw [decide_eq_false hbk]; rfl), List.map_append]
                  rfl
            · rintro He ⟨g4, se⟩
              rw [List.length_map, List.take_length] at g4
              refine ⟨_, rfl, Nat.zero_le _, fun l5 hl5 => ?_⟩
              have s5 : Same He (upd He l5 (.lst [])) := (Same.refl He).put hl5
              refine ⟨D2, l5, _, rfl, rfl, SqL.of (s5 _ _ g4), SqL.of upd_same, _, rfl, ?_⟩
              generalize upd He l5 (.lst []) = H5 at s5 ⊢
              have s45 := se.trans s5
              have s05 := s04.trans s45
              have ha5 := s45 _ _ (s4' _ _ ha3)
              by_cases hall : ∀ b ∈ us, b ∈ knownAt rs i
              · have hem : ((us.filter fun b => !decide (b ∈ knownAt rs i)).map V.str).isEmpty = true := by
                  rw [List.isEmpty_map, List.isEmpty_iff, List.filter_eq_nil_iff]
                  intro b hb
                  rw [decide_eq_true (hall b hb)]
                  decide
                rw [hem]
                refine iteF ⟨_, rfl, _, rfl, a, _, rfl, ha5, fun b6 H6 s6 hb6 => ?_⟩
                rw [cut1'] at hb6
                refine ⟨b6, us, rfl, hb6, by omega, fun ys q nd le me so hq => ?_⟩
                have s7 := s6.put (o := .lst (ys.map V.str)) (s6.free hq)
                have e7 : (upd H6 q (.lst (ys.map V.str))) q = some (.lst (ys.map V.str)) := upd_same
                generalize upd H6 q (.lst (ys.map V.str)) = H7 at s7 e7 ⊢
                refine ⟨_, rfl, _, rfl, a, _, rfl, s7 _ _ ha5, fun b8 H8 s8 hb8 => ?_⟩
                rw [cut1'] at hb8
                refine ⟨b8, us, rfl, SqT.of hb8, by omega, fun zs t pm so2 ht9 => ?_⟩
                have s9 := s8.put (o := .lst (zs.map V.str)) (s8.free ht9)
                have e9 : (upd H8 t (.lst (zs.map V.str))) t = some (.lst (zs.map V.str)) := upd_same
                generalize upd H8 t (.lst (zs.map V.str)) = H9 at s9 e9 ⊢
                have uok : ∀ y ∈ us, sOk y = true := fun y hy => (vw_ok (vw y (List.mem_cons_of_mem _ hy))).1
                refine ⟨.list (ys.map PyData.str), .list (zs.map PyData.str), .lst (SqL.of (s9 _ _ e7)) (strs_dp _ _ ys), .lst (SqL.of e9) (strs_dp _ _ zs), strs_shaped _ fun y hy => uok y ((me y).mp hy), strs_shaped _ fun y hy => uok y (pm.mem_iff.mp hy), _, rfl, ?_⟩
                rw [show PyData.eqv (.list (ys.map PyData.str)) (.list (zs.map PyData.str)) = decide (ys = zs) from strs_eqv ys zs]
                have s09 := (s05.trans s7).trans s9
                by_cases ndu : us.Nodup
                · have ez : ys = zs := sorted_one nd (pm.nodup_iff.mpr ndu) so so2 fun y => (me y).trans pm.mem_iff.symm
                  obtain ⟨c4, c5⟩ := c3 hx hall ndu
                  rw [decide_eq_true ez]
                  have hk9 := s9 _ _ (s7 _ _ (s45 _ _ (s4' _ _ hk3)))
                  have ha9 := s9 _ _ (s7 _ _ ha5)
                  refine iteF ⟨_, rfl, .inl ⟨rfl, _, SqL.of hk9⟩, _, rfl, a, _, _, _, rfl, rfl, SqT.of ha9, atI_nat (j := 0) rfl, lk, _, _, rfl, rfl, hk9, ?_, ?_⟩
                  · rw [List.length_map, knownAt_len hir]
                    show _ < 16777216
                    omega
                  · refine ⟨_, _, _, _, _, rfl, c4, ?_, fun b o hb => ?_⟩
                    · rw [upd_same, c5, List.map_append]
                      rfl
                    · rw [upd_ne (ne_of_none hb hlk)]
                      exact s09 b o hb
                · obtain ⟨en, eo⟩ := c2 hx (.inr ndu)
                  have ez : ys ≠ zs := fun e => ndu (pm.nodup_iff.mp (e ▸ nd))
                  rw [decide_eq_false ez]
                  exact iteT ⟨_, rfl, (by show 3 ≤ sizeLine; decide), fun t ht => kR' _ (.ref a) _ en eo s09 t ht⟩
              · have hne : ((us.filter fun b => !decide (b ∈ knownAt rs i)).map V.str).isEmpty = false := by
                  rw [List.isEmpty_map, Bool.eq_false_iff]
                  intro z
                  rw [List.isEmpty_iff, List.filter_eq_nil_iff] at z
                  exact hall fun b hb => Decidable.byContradiction fun q => z b hb (by rw [decide_eq_false q]; rfl)
                obtain ⟨en, eo⟩ := c2 hx (.inl (by
                  by_cases z : ∃ b, b ∈ us ∧ b ∉ knownAt rs i
                  · exact z
                  · exact absurd (fun b hb => Decidable.byContradiction fun q => z ⟨b, hb, q⟩) hall))
                rw [hne]
                exact iteT ⟨_, rfl, (by show 3 ≤ sizeLine; decide), fun t ht => kR' _ (.ref a) _ en eo s05 t ht⟩
    · rintro σ Hc ⟨v2, v3, v4, v5, v6, rfl, hir, hk, sm⟩
      rcases hex with ⟨e, _⟩ | ⟨r, v, more, _, e2, _⟩
      · exact kN e Hc sm
      · have h2 := R.1
        rw [e2, List.length_append, List.length_map, List.length_cons] at hir
        omega
end
end K2
end
section
set_option Elab.async false
set_option maxRecDepth 100000
set_option linter.all false
namespace K2
open PySem L2 LamX PySem.Spec PyProof.Rows
theorem ClsW.extN {C p : Addr} {H H' : Hp} {rs : List Row} (h : ClsW C H p rs) (s : ExtN H H') : ClsW C H' p rs := by
  obtain ⟨dx, r, n, l, kvs, ts, h1, h2, h3, h4, h5, h6⟩ := h
  exact ⟨dx, r, n, l, kvs, ts, s _ _ h1 (fun ps z => by cases z), s _ _ h2 (fun ps z => by cases z), h3.mono fun a us e => s a _ e (fun ps z => by unfold fD at z; cases z), s _ _ h4 (fun ps z => by cases z), s _ _ h5 (fun ps z => by cases z), h6.mono fun b r e => s b _ e (fun ps z => by unfold rowO at z; cases z)⟩
theorem Pen.extN {H H' : Hp} {p c : Addr} {ns : List Int} {n : Nat} (h : Pen H p c ns n) (s : ExtN H H') : Pen H' p c ns n := by
  obtain ⟨a, l, g, r⟩ := h.pen
  exact ⟨⟨a, l, s _ _ g (fun ps z => by unfold penO at z; cases z), r⟩, s _ _ h.cells (fun ps z => by cases z), h.small⟩
theorem Tabs.kp {T : List (Addr × Str)} {H H' : Hp} {p c : Addr} {ns : List Int} {n : Nat} (t : Tabs T H) (P : Pen H p c ns n) (k : Keep p H H') : Tabs T H' := fun q hq => by
  obtain ⟨ps, h1, h2, h3⟩ := t q hq
  obtain ⟨a, l, g, _⟩ := P.pen
  refine ⟨ps, k _ _ h1 (fun e => ?_), h2, fun pos cv hc => ?_⟩
  · rw [e, g] at h1
    unfold penO at h1
    cases h1
  · obtain ⟨c0, e1, e2⟩ := h3 pos cv hc
    refine ⟨c0, e1, k _ _ e2 fun e => ?_⟩
    rw [e, g] at e2
    unfold penO CodeO at e2
    cases e2
theorem Tabs.same {T : List (Addr × Str)} {H H' : Hp} (t : Tabs T H) (s : Same H H') : Tabs T H' := t.ext s

theorem Good.nar {rs : List Row} (g : Good rs) (h : rs.length ≤ 31) : ∀ r ∈ rs, r.2.length ≤ 32 := by
  intro r hr
  obtain ⟨i, hi⟩ := List.getElem?_of_mem hr
  have R := g i r hi
  have il : i < rs.length := (List.getElem?_eq_some_iff.mp hi).1
  have := R.nd.length_le_of_subset R.sub
  rw [knownAt_len (by omega)] at this
  omega
section
variable {P : Program} {w : World} {K : PySem.W.Frag} {mg : Str → Option Value} {base : Heap}
theorem _root_.L2.FnOk.lift {k : Nat} {f : Addr} {fd : FuncData} {ps : List Str} {sp : Sp} (F : FnOk P w K mg base CX0 k f fd ps sp) : FnOk P w K mg base (L2.CX P w) k f fd ps sp :=
  ⟨F.len, fun A outer s H args us vs Q E hr he hb hv hs => codeAny_mono (F.run A outer s H args us vs Q E hr he hb hv hs) fun r s' hq => by
    cases r with
    | error e => exact hq.elim
    | ok fl => cases fl <;> exact hq⟩
theorem _root_.L2.FnR.lift {k : Nat} {f : Addr} {sp : Sp} (F : FnR P w K mg base CX0 k f sp) : FnR P w K mg base (L2.CX P w) k f sp :=
  fun A outer s H us vs Q E hr he hv hs => codeAny_mono (F A outer s H us vs Q E hr he hv hs) fun r s' hq => by
    cases r with
    | error e => exact hq.elim
    | ok fl => cases fl <;> exact hq
theorem _root_.L2.FnR.or {CX : CXT} {k : Nat} {f : Addr} {sp sp' : Sp} (F : FnR P w K mg base CX k f sp) (G : FnR P w K mg base CX k f sp') : FnR P w K mg base CX k f (fun vs H Q E => sp vs H Q E ∨ sp' vs H Q E) :=
  fun A outer s H us vs Q E hr he hv hs => hs.elim (F A outer s H us vs Q E hr he hv) (G A outer s H us vs Q E hr he hv)
/-! what is answered: classes or the first fault -/
def Ans (C CN : Addr) (H : Hp) (rs : List Row) (o : Option Str) (Q : VK) (E : XK) : Prop :=
  (o = none → ∀ (p : Addr) (H' : Hp), ClsW C H' p rs → Same H H' → Q (.ref p) H') ∧ ∀ r, o = some r → ∀ (d : Addr) (H' : Hp), Same H H' → H' d = some (.xd (ncF r rs.length)) → E (.ref CN) (some d) H'
def spMade2 (K : PySem.W.Frag) (C CN : Addr) : Sp := fun vs H Q E => ∃ (l : Addr) (xs : List V) (rs : List Row) (o : Option Str), vs = [.ref C, .ref l] ∧ H l = some (.lst xs) ∧ xs.length ≤ 64 ∧ Split K H xs rs o ∧ Ans C CN H rs o Q E
theorem ok_made2 {f C CN : Addr} {fd : FuncData} (G1 : FnOk P w K mg base CX0 6 f fd ["cls", "rows"] (spMade C)) (G2 : FnOk P w K mg base (L2.CX P w) 6 f fd ["cls", "rows"] (spMadeX K C CN)) : FnOk P w K mg base (L2.CX P w) 6 f fd ["cls", "rows"] (spMade2 K C CN) := by
  refine (G1.lift.or G2).imp fun vs H Q E h => ?_
  obtain ⟨l, xs, rs, o, e, hl, h64, S, a1, a2⟩ := h
  obtain ⟨ts, R, ⟨eo, ex⟩ | ⟨r, v, more, eo, ex, FV⟩⟩ := S.ex
  · exact .inl ⟨l, ts, rs, e, ex ▸ hl, R, S.g, S.l, a1 eo⟩
  · exact .inr ⟨l, xs, rs, r, e, hl, by omega, ⟨S.g, S.l, ts, v, more, ex, R, FV⟩, a2 r eo⟩
/-- x(..) of the class -/
theorem initR2 {C CN : Addr} {H : Hp} {xs : List V} {rs : List Row} {o : Option Str} {Q : VK} {E : XK} (S : Split K H xs rs o) (h64 : xs.length ≤ 64) (A : Ans C CN H rs o Q E) :
    ∀ x dx, H x = none → H dx = none → dx ≠ x → spInitR C (V.ref x :: xs) (upd (upd H dx (.own x)) x (.ins C dx [])) (fun v H2 => v = .non ∧ Q (.ref x) H2) E ∨ spInitXR K C CN (V.ref x :: xs) (upd (upd H dx (.own x)) x (.ins C dx [])) (fun v H2 => v = .non ∧ Q (.ref x) H2) E := by
  intro x dx nx ndx ne
  obtain ⟨ts, R, ⟨eo, ex⟩ | ⟨r, v, more, eo, ex, FV⟩⟩ := S.ex
  · rw [ex]
    exact .inl (initR R S.g S.l (A.1 eo) x dx nx ndx ne)
  · exact .inr (initRX ⟨S.g, S.l, ts, v, more, ex, R, FV⟩ (by omega) (A.2 r eo) x dx nx ndx ne)
/-- the error that was heard, or None -/
abbrev sEr : Stmt := top 40
def spEr : Sp := fun vs H Q _ => (∃ a xs, vs = [.ref a] ∧ H a = some (.lst xs) ∧ Q .non H) ∨ ∃ a xs, vs = [.ref a] ∧ H a = some (.tup xs) ∧ Q (.ref a) H
theorem scEr : FnScope ["_law_heard_here"] ["_law_heard_here"] (defScope sEr) := ⟨rfl, rfl, rfl, by decide +kernel, rfl, by decide +kernel, by decide +kernel⟩
theorem ok_er {f : Addr} {fd : FuncData} (F : Fun K "_law_error" "_law_error" sEr f fd) (T : Bi mg) : FnOk P w K mg base CX0 1 f fd ["_law_heard_here"] spEr := by
  refine F.ok scEr (fun vs H Q E h => ?_) (fun cdv A outer s H vs Q E hr h => ?_)
  · rcases h with ⟨a, xs, rfl, _⟩ | ⟨a, xs, rfl, _⟩ <;> rfl
  · refine ⟨_, pss_one (ps_ret (pe_ifExp (pt_val (pe_callB call_isi (by rfl) T.isinstance (by decide +kernel) (pa_cons (pv 0) (pa_cons (pe_bltn (v := .ty "list") (by rfl) T.list (by decide +kernel) rfl) pa_nil)))) pe_non (pv 0))), ?_⟩
    rcases h with ⟨a, xs, rfl, ha, k⟩ | ⟨a, xs, rfl, ha, k⟩
    · exact ⟨_, rfl, _, _, _, _, true, rfl, .ty _, .base (.lst ha), kit_ty (by decide +kernel), _, rfl, iteT k⟩
    · exact ⟨_, rfl, _, _, _, _, false, rfl, .ty _, .base (.tup ha), kit_ty (by decide +kernel), _, rfl, iteF ⟨_, rfl, k⟩⟩
end
end K2
end
section
set_option Elab.async false
set_option maxRecDepth 100000
set_option linter.all false
namespace K2
open PySem L2 LamX PySem.Spec PyProof.Rows
/-- all but the pen and the tables stays -/
structure KN (p : Addr) (H H' : Hp) : Prop where
  k : ∀ b o, H b = some o → b ≠ p → (∀ ps, o ≠ .tbl ps) → H' b = some o
  h1 : ∃ xs, H p = some (.lst xs)
  h2 : ∃ xs, H' p = some (.lst xs)
theorem KN.of {p c : Addr} {ns : List Int} {n m : Nat} {H H' : Hp} (P : Pen H p c ns n) (P' : Pen H' p c ns m) (k : ∀ b o, H b = some o → b ≠ p → (∀ ps, o ≠ .tbl ps) → H' b = some o) : KN p H H' := by
  obtain ⟨a, l, g, _⟩ := P.pen
  obtain ⟨a', l', g', _⟩ := P'.pen
  exact ⟨k, ⟨_, g⟩, ⟨_, g'⟩⟩
theorem KN.keep {p c : Addr} {ns : List Int} {n m : Nat} {H H' : Hp} (P : Pen H p c ns n) (P' : Pen H' p c ns m) (k : Keep p H H') : KN p H H' := .of P P' fun b o h nb _ => k b o h nb
theorem KN.ext {p c : Addr} {ns : List Int} {n : Nat} {H H' : Hp} (P : Pen H p c ns n) (k : ExtN H H') : KN p H H' := .of P (P.extN k) fun b o h _ n => k b o h n
theorem KN.to {p : Addr} {H H' : Hp} (k : KN p H H') {b : Addr} {o : HO} (h : H b = some o) (nl : ∀ xs, o ≠ .lst xs) (nt : ∀ ps, o ≠ .tbl ps) : H' b = some o := by
  refine k.k b o h (fun e => ?_) nt
  obtain ⟨xs, g⟩ := k.h1
  rw [e, g] at h
  exact nl xs (Option.some.inj h).symm
theorem TyX.kn {K : PySem.W.Frag} {p : Addr} {H H' : Hp} {x : V} {t : Value} (h : TyX K H x t) (k : KN p H H') : TyX K H' x t := by
  cases h with
  | base h =>
    cases h with
    | non => exact .base .non
    | bl b => exact .base (.bl b)
    | int i => exact .base (.int i)
    | str y => exact .base (.str y)
    | flt y => exact .base (.flt y)
    | lst e =>
      rename_i a xs
      by_cases q : a = p
      · obtain ⟨ys, g⟩ := k.h2
        rw [q]
        exact .base (.lst g)
      · exact .base (.lst (k.k _ _ e q (by nofun)))
    | frz e => exact .base (.frz (k.to e (by nofun) (by nofun)))
    | tup e => exact .base (.tup (k.to e (by nofun) (by nofun)))
    | dK e => exact .base (.dK (k.to e (by nofun) (by nofun)))
    | dT e => exact .base (.dT (k.to e (by nofun) (by nofun)))
    | ins e cl ha hn htk hm => exact .base (.ins (k.to e (by nofun) (by nofun)) cl ha hn htk hm)
  | byt b => exact .byt b
  | set e => exact .set (k.to e (by nofun) (by nofun))
  | kList e c => exact .kList e c
  | kTuple e c => exact .kTuple e c
  | kDict e c => exact .kDict e c
  | fTuple e => exact .fTuple (k.to e (by nofun) (by nofun))
  | fDict e => exact .fDict (k.to e (by nofun) (by nofun))
theorem WdAll.kn {K : PySem.W.Frag} {p : Addr} {H H' : Hp} {xs : List V} {bs : List Bool} (h : WdAll K H xs bs) (k : KN p H H') : WdAll K H' xs bs := ⟨h.1, fun i x b h1 h2 => by
  cases h.2 i x b h1 h2 with
  | str x l => exact .str x l
  | no ty kk => exact .no (TyX.kn ty k) kk⟩
theorem FaultV.kn {K : PySem.W.Frag} {p : Addr} {H H' : Hp} {nm : List Str} {v : V} {n : Nat} {r : Str} (h : FaultV K H nm v n r) (k : KN p H H') : FaultV K H' nm v n r := by
  cases h with
  | many v => exact .many v
  | row1 hn ty kk => exact .row1 hn (TyX.kn ty k) kk
  | row2 hn h l => exact .row2 hn (k.to h (by nofun) (by nofun)) l
  | row3 hn h l l2 wd no => exact .row3 hn (k.to h (by nofun) (by nofun)) l l2 (wd.kn k) no
  | name hn h l l2 vw hx => exact .name hn (k.to h (by nofun) (by nofun)) l l2 vw hx
  | base hn h l l2 vw hx hb => exact .base hn (k.to h (by nofun) (by nofun)) l l2 vw hx hb
theorem Split.kn {K : PySem.W.Frag} {p : Addr} {H H' : Hp} {vs : List V} {rs : List Row} {o : Option Str} (h : Split K H vs rs o) (k : KN p H H') : Split K H' vs rs o := by
  obtain ⟨ts, R, e⟩ := h.ex
  refine ⟨h.g, h.l, h.nar, ts, R.mono fun b r e => k.to e (by unfold rowO; nofun) (by unfold rowO; nofun), ?_⟩
  rcases e with e | ⟨r, v, more, e1, e2, F⟩
  · exact .inl e
  · exact .inr ⟨r, v, more, e1, e2, F.kn k⟩
/-- what the law tells of the rows -/
def DueV (H : Hp) (rs : List Row) (o : Option Str) (v : V) : Prop := (o = none ∧ v = .non) ∨ ∃ r t, o = some r ∧ v = .ref t ∧ H t = some (.tup [.str "CLASS", .str r, .int (rs.length : Nat)])
theorem DueV.kn {p : Addr} {H H' : Hp} {rs : List Row} {o : Option Str} {v : V} (h : DueV H rs o v) (k : KN p H H') : DueV H' rs o v := by
  rcases h with h | ⟨r, t, e1, e2, h⟩
  · exact .inl h
  · exact .inr ⟨r, t, e1, e2, k.to h (by nofun) (by nofun)⟩
theorem DueV.same {H H' : Hp} {rs : List Row} {o : Option Str} {v : V} (h : DueV H rs o v) (s : Same H H') : DueV H' rs o v := by
  rcases h with h | ⟨r, t, e1, e2, h⟩
  · exact .inl h
  · exact .inr ⟨r, t, e1, e2, s _ _ h⟩
/-- what is told of it -/
def wtD (r : Str) (n : Nat) : PyData := .tuple [.str "CLASS", .str r, .int n]
def reasons : List Str := ["many", "row", "name", "base"]
theorem wtD_ok : ∀ n : Nat, n ≤ 30 → ∀ r ∈ reasons, (wtD r n).showable = true ∧ (wtD r n).hasDict = false ∧ (wtD r n).depth ≤ 8 ∧ (wtD r n).shown.length ≤ sizeLine := by
  have h : ∀ n : Fin 31, ∀ r ∈ reasons, (wtD r n.val).showable = true ∧ (wtD r n.val).hasDict = false ∧ (wtD r n.val).depth ≤ 8 ∧ (wtD r n.val).shown.length ≤ sizeLine := by decide +kernel
  exact fun n hn r hr => h ⟨n, by omega⟩ r hr
theorem FaultV.rsn {K : PySem.W.Frag} {H : Hp} {nm : List Str} {v : V} {n : Nat} {r : Str} (h : FaultV K H nm v n r) : r ∈ reasons := by
  unfold reasons
  cases h <;> simp
theorem Split.rsn {K : PySem.W.Frag} {H : Hp} {vs : List V} {rs : List Row} {r : Str} (h : Split K H vs rs (some r)) : r ∈ reasons := by
  obtain ⟨ts, R, ⟨e, _⟩ | ⟨r', v, more, e, _, F⟩⟩ := h.ex
  · cases e
  · cases e
    exact F.rsn
theorem wtD_dp {K : PySem.W.Frag} {H : Hp} {t : Addr} {r : Str} {n : Nat} (h : H t = some (.tup [.str "CLASS", .str r, .int (n : Nat)])) : Dp K H (.ref t) (wtD r n) := .tup (SqT.of h) (.cons (.str _) (.cons (.str _) (.cons (.int _) .nil)))
end K2
end
section
set_option Elab.async false
set_option maxRecDepth 100000
set_option linter.all false
namespace K2
open PySem L2 LamX PySem.Spec PyProof.Rows
abbrev sPR : Stmt := top 44
abbrev nPR : List Str := ["_law_pen_here", "_law_rows_here", "_law_due_here", "_law_first", "_law_cut", "_law_built", "_law_rest", "_law_heard_here", "_law_wanted"]
abbrev qLaw : Str := Str.ofString "law" ++ ".<locals>." ++ "<lambda>"
abbrev qPR : Str := Str.ofString "_law_pieces_right" ++ ".<locals>." ++ "<lambda>"
def spWRB (K : PySem.W.Frag) (C CN : Addr) : Sp := fun vs H Q E => spWRr C vs H Q E ∨ spWRXr K C CN vs H Q E
def spPR (K : PySem.W.Frag) (T0 : List (Addr × Str)) : Sp := fun vs0 H Q _ => ∃ (p c l : Addr) (ns : List Int) (n : Nat) (vs : List V) (rs : List Row) (o : Option Str) (due : V), vs0 = [.ref p, .ref l, due] ∧ Pen H p c ns n ∧ n + 5 ≤ 100000 ∧ H l = some (.lst vs) ∧ l ≠ p ∧ vs.length ≤ 64 ∧ Split K H vs rs o ∧ DueV H rs o due ∧ Tabs T0 H ∧
  ∀ H', Pen H' p c ns (n + 5) → Tabs T0 H' → Q (.bl true) H'
theorem cutV_mid (xs : List V) (j : Nat) (h : j ≤ xs.length) : cutV xs (some (j : Int)) (some ((j : Int) + 2)) = (xs.drop j).take 2 := by
  unfold cutV
  rw [show ((j : Int) + 2) = ((j + 2 : Nat) : Int) by push_cast; rfl, HT.sIx_nat, HT.sIx_nat, Nat.min_eq_left h]
  by_cases h2 : j + 2 ≤ xs.length
  · rw [Nat.min_eq_left h2, show j + 2 - j = 2 by omega]
  · rw [Nat.min_eq_right (by omega), List.take_of_length_le (by rw [List.length_drop]; exact Nat.le_refl _), List.take_of_length_le (by rw [List.length_drop]; omega)]
theorem RowsAt.cut {H : Hp} {ts : List Addr} {rs : List Row} (h : RowsAt H ts rs) (j k : Nat) : RowsAt H ((ts.drop j).take k) ((rs.drop j).take k) := by
  refine ⟨by rw [List.length_take, List.length_take, List.length_drop, List.length_drop, h.1], fun i t r a b => ?_⟩
  rw [List.getElem?_take] at a b
  split at a
  · rw [List.getElem?_drop] at a
    rw [if_pos (by assumption), List.getElem?_drop] at b
    exact h.2 _ t r a b
  · cases a
theorem RowsAt.cutTo {H : Hp} {ts : List Addr} {rs : List Row} (h : RowsAt H ts rs) (k : Nat) : RowsAt H (ts.take k) (rs.take k) := h.cut 0 k
theorem Good.cut {rs : List Row} (g : Good rs) (k : Nat) : Good (rs.take k) := by
  intro i r hr
  rw [List.getElem?_take] at hr
  split at hr
  · rename_i h
    have := g i r hr
    unfold knownAt at *
    rw [List.take_take, Nat.min_eq_left (by omega)]
    exact this
  · cases hr
theorem Split.to {K : PySem.W.Frag} {H : Hp} {vs : List V} {rs : List Row} {o : Option Str} (S : Split K H vs rs o) {k : Nat} (h : k ≤ rs.length) : ∃ ts : List Addr, vs.take k = ts.map V.ref ∧ RowsAt H ts (rs.take k) := by
  obtain ⟨ts, R, e⟩ := S.ex
  refine ⟨ts.take k, ?_, R.cutTo k⟩
  have hl : k ≤ (ts.map V.ref).length := by rw [List.length_map, R.1]; exact h
  rcases e with ⟨_, e⟩ | ⟨r, v, more, _, e, _⟩
  · rw [e, List.map_take]
  · rw [e, List.take_append_of_le_length hl, List.map_take]
theorem Split.len {K : PySem.W.Frag} {H : Hp} {vs : List V} {rs : List Row} {o : Option Str} (S : Split K H vs rs o) : rs.length ≤ vs.length ∧ (o = none → vs.length = rs.length) := by
  obtain ⟨ts, R, ⟨e1, e⟩ | ⟨r, v, more, e1, e, _⟩⟩ := S.ex
  · rw [e, List.length_map, R.1]; exact ⟨Nat.le_refl _, fun _ => rfl⟩
  · rw [e, List.length_append, List.length_map, R.1]; exact ⟨by omega, fun z => by rw [e1] at z; cases z⟩
theorem rest2 {K : PySem.W.Frag} {H : Hp} {vs : List V} {rs : List Row} {o : Option Str} {cut : Nat} (S : Split K H vs rs o) (hc : cut ≤ rs.length) (h2 : 2 ≤ ((vs.drop cut).take 2).length) :
    (cut + 2 ≤ rs.length ∧ ∃ ts2 : List Addr, (vs.drop cut).take 2 = ts2.map V.ref ∧ RowsAt H ts2 ((rs.drop cut).take 2)) ∨ (rs.length < cut + 2 ∧ ∃ r, o = some r ∧ Bad2 K H ((vs.drop cut).take 2) (rs.take cut) (rs.drop cut) r) := by
  obtain ⟨ts, R, e⟩ := S.ex
  by_cases h : cut + 2 ≤ rs.length
  · refine .inl ⟨h, (ts.drop cut).take 2, ?_, R.cut cut 2⟩
    have hl : cut ≤ (ts.map V.ref).length := by rw [List.length_map, R.1]; omega
    rcases e with ⟨_, e⟩ | ⟨r, v, more, _, e, _⟩
    · rw [e, ← List.map_drop, ← List.map_take]
    · rw [e, List.drop_append_of_le_length hl, List.take_append_of_le_length (by rw [List.length_drop, List.length_map, R.1]; omega), ← List.map_drop, ← List.map_take]
  · refine .inr ⟨by omega, ?_⟩
    rcases e with ⟨_, e⟩ | ⟨r, v, more, eo, e, F⟩
    · rw [e, List.length_take, List.length_drop, List.length_map, R.1] at h2
      omega
    · have hd : (ts.drop cut).length ≤ 1 := by rw [List.length_drop, R.1]; omega
      have el : rs.take cut ++ rs.drop cut = rs := List.take_append_drop cut rs
      refine ⟨r, eo, by rw [el]; exact S.g, by rw [el]; exact S.l, ts.drop cut, v, more.take (1 - (ts.drop cut).length), ?_, ?_, by rw [el]; exact F⟩
      · rw [e, List.drop_append_of_le_length (by rw [List.length_map, R.1]; exact hc), List.take_append, ← List.map_drop, List.take_of_length_le (by rw [List.length_map]; omega), List.length_map]
        rw [show 2 - (ts.drop cut).length = (1 - (ts.drop cut).length) + 1 by omega, List.take_succ_cons]
      · have := R.cut cut (rs.length)
        rw [List.take_of_length_le (by rw [List.length_drop, R.1]; omega), List.take_of_length_le (by rw [List.length_drop]; omega)] at this
        exact this
/-- what _law_heard tells -/
def Heard (Hk : Hp) (o : Option Str) (n : Nat) (hv : V) : Prop := (o = none ∧ ∃ a ys, hv = .ref a ∧ Hk a = some (.lst ys)) ∨ ∃ r a, o = some r ∧ hv = .ref a ∧ Hk a = some (.tup [.str "CLASS", .str r, .int (n : Nat)])
def QL (Q : VK) : VK := fun v H' => [v].length ≤ sizeLine ∧ ∀ p, H' p = none → Q (.ref p) (upd H' p (.lst [v]))
theorem heard_cls {H : Hp} {o : Option Str} {n : Nat} {Q : VK} (eo : o = none) (k : ∀ hv Hk, Same H Hk → Heard Hk o n hv → Q hv Hk) {v : V} {H' : Hp} (s : Same H H') : QL Q v H' := by
  refine ⟨(by show 1 ≤ 16777216; decide), fun p hp => k _ _ (s.put (s.free hp)) (.inl ⟨eo, p, _, rfl, upd_same⟩)⟩
theorem heard_err {K : PySem.W.Frag} {cl : Str → Addr} {CN : Addr} (hCls : OfClass K cl CN) {H : Hp} {o : Option Str} {r : Str} {n : Nat} {Q : VK} (eo : o = some r) (k : ∀ hv Hk, Same H Hk → Heard Hk o n hv → Q hv Hk) {d : Addr} {H' : Hp} (s : Same H H') (hd : H' d = some (.xd (ncF r n))) : HMC K cl Q (.ref CN) (some d) H' :=
  ⟨CN, d, _, _, _, rfl, rfl, hd, hCls, rfl, rfl, fun t Hk sk ht => k _ _ (s.trans sk) (.inr ⟨r, t, eo, rfl, ht⟩)⟩
theorem ans_heard {K : PySem.W.Frag} {cl : Str → Addr} {C CN : Addr} (hCls : OfClass K cl CN) {H : Hp} {rs : List Row} {o : Option Str} {Q Q1 : VK} (hq : ∀ v H', QL Q v H' → Q1 v H') (k : ∀ hv Hk, Same H Hk → Heard Hk o rs.length hv → Q hv Hk) : Ans C CN H rs o Q1 (HMC K cl Q) :=
  ⟨fun eo p H' _ s => hq _ _ (heard_cls eo k s), fun r eo d H' s hd => heard_err hCls eo k s hd⟩
theorem hear_wr {K : PySem.W.Frag} {cl : Str → Addr} {C CN b : Addr} (hCls : OfClass K cl CN) {H : Hp} {vs : List V} {rs : List Row} {o : Option Str} {Q : VK} {cut : Nat} (g : Good rs) (l30 : rs.length ≤ 30) (hc : cut ≤ rs.length) (cb : ClsW C H b (rs.take cut)) (l2 : vs.length ≤ 2)
    (B : (cut + 2 ≤ rs.length ∧ ∃ ts2 : List Addr, vs = ts2.map V.ref ∧ RowsAt H ts2 ((rs.drop cut).take 2)) ∨ (rs.length < cut + 2 ∧ ∃ r, o = some r ∧ Bad2 K H vs (rs.take cut) (rs.drop cut) r))
    {Q1 : VK} (hq : ∀ v H', QL Q v H' → Q1 v H') (k : ∀ hv Hk, Same H Hk → Heard Hk (if rs.length < cut + 2 then o else none) rs.length hv → Q hv Hk) : spWRB K C CN (V.ref b :: vs) H Q1 (HMC K cl Q) := by
  have sz : vs.length ≤ sizeLine := by show _ ≤ 16777216; omega
  rcases B with ⟨h, ts2, e, R⟩ | ⟨h, r, eo, Bd⟩
  · rw [if_neg (by omega)] at k
    refine .inl ⟨[V.ref b], vs, rfl, rfl, sz, fun pt hpt => ?_⟩
    have s1 : Same H (upd H pt (.tup vs)) := (Same.refl H).put hpt
    have e2 : rs.take cut ++ (rs.drop cut).take 2 = rs.take (cut + 2) := (List.take_add ..).symm
    refine ⟨b, pt, rs.take cut, (rs.drop cut).take 2, ts2, rfl, cb.same s1, by rw [upd_same, e], R.mono fun b r e => s1 _ _ e, by rw [e2]; exact g.cut _, by rw [e2, List.length_take]; omega, fun p H' _ s => hq _ _ (heard_cls rfl k (s1.trans s))⟩
  · rw [if_pos h] at k
    refine .inr ⟨[V.ref b], vs, rfl, rfl, sz, fun pt hpt => ?_⟩
    have s1 : Same H (upd H pt (.tup vs)) := (Same.refl H).put hpt
    refine ⟨b, pt, rs.take cut, rs.drop cut, vs, r, rfl, cb.same s1, upd_same, by omega, Bd.same s1, fun d H' s hd => heard_err hCls eo k (s1.trans s) ?_⟩
    rwa [List.take_append_drop] at hd
section
variable {P : Program} {w : World} {K : PySem.W.Frag} {mg : Str → Option Value} {base : Heap}
theorem okGc {x qual : Str} {st : Stmt} {f c : Addr} {fd : FuncData} {N ps : List Str} {k : Nat} {sp : Sp} (F : Fun K x qual st f fd) (hc : fd.code = .ref c) (S : FnScope N ps (defScope st)) (len : ∀ vs H Q E, sp vs H Q E → vs.length = ps.length)
    (body : ∀ (A : Around) (outer : List Env) (s : Shared) (H : Hp) (vs : List V) (Q : VK) (E : XK), Room k (A.deeper (PyProof.Rows.envOfC qual (defScope st) s.heap.objs.size f (.ref c))) → A.guards = some [] → sp vs H Q E →
      ∃ t, PSs (cxOf CX0 P w K mg base N qual (defScope st) f (.ref c) A outer s H E).nox (defBody st) t ∧ t { nx := fun _ H' => Q .non H', rt := Q } (start N vs) H) : FnG P w K mg base (k + 1) f fd ps sp := by
  obtain ⟨oc, od, kV, doc, pm, an, cdv, ct, osl, rfl, lk, hcd⟩ := F.ex
  obtain rfl : cdv = .ref c := hc
  refine ⟨len, fun A outer s H args us vs Q E hr hg e0 hb rv hs => ?_⟩
  refine StX.run_bnd (G := fun xs H2 => xs = vs ∧ H2 = H) lk hcd S hr e0 (fun A' Ex Q' h => hb _ _ _ _ (h s H vs us e0 Un.refl rfl (fun _ _ z => z) rv (len _ _ _ _ hs) ⟨rfl, rfl⟩)) fun s2 H2 xs ⟨e1, e2⟩ hr2 => ?_
  subst e1 e2
  obtain ⟨t, h1, h2⟩ := body A outer s2 _ _ Q E hr2 hg hs
  exact ⟨t, h1.nox, h2⟩
theorem scPR : FnScope nPR ["_law_pen_here", "_law_rows_here", "_law_due_here"] (defScope sPR) := ⟨rfl, rfl, rfl, by decide +kernel, rfl, by decide +kernel, by decide +kernel⟩
set_option maxHeartbeats 2000000 in
theorem ok_pr {f fD fE fHe fM fLn fWR pM C CN c2 PT PT2 : Addr} {mc : Value} {cl : Str → Addr} {fd fdD fdE fdHe fdM fdLn : FuncData} (F : Fun K "_law_pieces_right" "_law_pieces_right" sPR f fd) (hc : fd.code = .ref c2) (TB2 : TabB base mg c2 PT2) (npt : PT ≠ PT2) (T : Bi mg) (tMin : mg "min" = none) (tVE : mg "ValueError" = none) (hcl : ∀ x ∈ errs, mg x = some (.ref (cl x))) (hCls : OfClass K cl CN) (Y : Txt K mg C)
    (D : Df K mg "_law_draw" sDraw fD fdD ["_law_pen_here", "_law_many"]) (GD : FnOk P w K mg base CX0 1 fD fdD ["_law_pen_here", "_law_many"] spDraw)
    (HE : Df K mg "_law_heard" sHeard fHe fdHe ["_law_ask"]) (ER : Df K mg "_law_error" sEr fE fdE ["_law_heard_here"]) (GEr : FnOk P w K mg base CX0 1 fE fdE ["_law_heard_here"] spEr)
    (GLn : FnOk P w K mg base CX0 1 fLn fdLn ["self"] (spLenC C)) (bLn : Binds K fdLn ["self"] []) (hLn : PySem.W.findIn K (.ref C) "__len__" = some (some (.ref fLn))) (hLnf : PySem.W.isFn K (.ref fLn) = true)
    (mWR : Meth K C "with_rows" fWR) (GWB : FnR P w K mg base (L2.CX P w) 6 fWR (spWRB K C CN))
    (cR : ClX.CRead K C mc) (cM : ClX.CMet K C mc "made" pM fM) (GM : FnOk P w K mg base CX0 6 fM fdM ["cls", "rows"] (spMade C)) (bM : Binds K fdM ["cls", "rows"] []) :
    FnG P w K mg base 9 f fd ["_law_pen_here", "_law_rows_here", "_law_due_here"] (spPR K [(PT, qLaw), (PT2, qPR)]) := by
  obtain ⟨hoc, hod, hkV, hdoc, hpm, han, hcdv, hct, hosl, rfl, hlk, hhcd⟩ := HE.F.ex
  refine okGc F hc scPR (fun vs H Q E h => ?_) (fun A outer s H vs Q E hr gu h => ?_)
  · obtain ⟨p, c, l, ns, n, vs, rs, o, due, rfl, _⟩ := h
    rfl
  · obtain ⟨p, c, l, ns, n, vs, rs, o, due, rfl, P0, hn, hl, nl, h64, S, hdue, tb0, kQ⟩ := h
    have hu := hu_of hr
    have hr1 : Room 1 _ := hr.mono (by decide)
    have hr2 : Room 2 _ := hr.mono (by decide)
    have hr6 : Room 6 _ := hr.mono (by decide)
    have hu2 : ∀ q ∈ [(PT, qLaw), (PT2, qPR)], q.1 = PT2 → q.2 = qPR := fun q hq e => by
      simp only [List.mem_cons, List.not_mem_nil, or_false] at hq
      rcases hq with rfl | rfl
      · exact absurd e npt
      · rfl
    refine ⟨_, (pss_cons (ps_set (i := 3) scPR.nd rfl (Or.inl rfl) (pe_ifExp (pt_cmpR op_isN (pv 2) pe_non (nomark _)) (pe_callB call_len_seq (by rfl) T.len PySem.boot_len (pa_cons (pv 1) pa_nil)) (pe_ix ix_tup (pv 2) pe_int (fun _ _ => rfl))))
      (pss_cons (ps_set (i := 4) scPR.nd rfl (Or.inl rfl) (pe_call GD hr1 (by rfl) D.m D.F.kp D.b .nil pass0 (pa_cons (pv 0) (pa_cons (pe_op op_add (pe_callB (call_min2 rfl) (by rfl) tMin (by decide +kernel) (pa_cons pe_int (pa_cons (pv 3) pa_nil))) pe_int) pa_nil))))
      (pss_cons (ps_set (i := 5) scPR.nd rfl (Or.inr rfl) (ClX.pe_cmeth (pe_glob (v := .ref C) rfl Y.mgC rfl) cR cM (GM.raw bM .nil) hr6 pass0 (pa_cons (pe_slice sl_list (pv 1) po_none (po_some (pv 4))) pa_nil)))
      (pss_cons (ps_set (i := 6) scPR.nd rfl (Or.inr rfl) (pe_slice sl_list (pv 1) (po_some (pv 4)) (po_some (pe_op op_add (pv 4) pe_int))))
      (pss_cons (ps_if (pt_cmpR op_lt (pe_callB call_len_seq (by rfl) T.len PySem.boot_len (pa_cons (pv 6) pa_nil)) pe_int (nomark _))
      (pss_one (ps_ret (pe_cmpR (op_eqD hr.units) (pe_fld (pv 5) rfl) (pe_callTy call_tuple_of (by rfl) T.tuple (by decide +kernel) (pa_cons (pe_slice sl_list (pv 1) po_none (po_some (pv 4))) pa_nil)) (nomark _))))
      pss_nil)
      (pss_cons (ps_set (i := 7) scPR.nd rfl (Or.inl rfl) (pe_lamcall (T := [(PT, Str.ofString "law" ++ ".<locals>." ++ "<lambda>"), (PT2, Str.ofString "_law_pieces_right" ++ ".<locals>." ++ "<lambda>")]) (k := 6) (by rfl) HE.m HE.F.kp hlk hhcd HE.b scHeard rfl (Or.inl rfl) (heard_givesC T tVE hcl) TB2 rfl (List.mem_cons_of_mem _ (List.mem_singleton.mpr rfl)) hu2 hr (lamS_by (show lamSB (defScope sPR) _ = true by decide +kernel)) rfl (fun _ _ _ _ _ => rfl)
          (fun A outer s H E f c' hr' => L2.pe_methR (pv 5) Y.cl mWR GWB hr' (passes_call (takes_of rfl rfl rfl rfl) fun _ _ _ _ h => h) (pa_cons (pe_ix (ix_listK (K' := K) rfl) (pv 6) pe_int (fun _ _ => rfl)) (pa_cons (pe_ix (ix_listK (K' := K) rfl) (pv 6) pe_int (fun _ _ => rfl)) pa_nil)))))
      (pss_cons (ps_set (i := 8) scPR.nd rfl (Or.inl rfl) (pe_ifExp (PW.pt (pw_and (pt_cmpR op_notN (pv 2) pe_non (nomark _)) (pw_and1 (pt_cmpR op_lt (pe_ix ix_tup (pv 2) pe_int (fun _ _ => rfl)) (pe_op op_add (pv 4) pe_int) (nomark _))))) (pv 2) pe_non))
      (pss_cons (ps_if (pt_cmpR op_ne (pe_callB (call_reprU gu hr.units) (by rfl) T.repr (by decide +kernel) (pa_cons (pe_call GEr hr1 (by rfl) ER.m ER.F.kp ER.b .nil pass0 (pa_cons (pv 7) pa_nil)) pa_nil)) (pe_callB (call_reprU gu hr.units) (by rfl) T.repr (by decide +kernel) (pa_cons (pv 8) pa_nil)) (nomark _))
      (pss_one (ps_ret pe_bl))
      pss_nil)
      (pss_one (ps_ret (pe_and (pe_cmpR op_eq (pe_callB (call_reprU gu hr.units) (by rfl) T.repr (by decide +kernel) (pa_cons (pe_fld (pv 5) rfl) pa_nil)) (pe_callB (call_reprU gu hr.units) (by rfl) T.repr (by decide +kernel) (pa_cons (pe_callTy call_tuple_of (by rfl) T.tuple (by decide +kernel) (pa_cons (pe_slice sl_list (pv 1) po_none (po_some (pv 4))) pa_nil)) pa_nil)) (nomark _)) (pe_one (pe_cmpR op_eq (pe_callB (call_lenO GLn bLn pass0 hr2 hLn hLnf) (by rfl) T.len PySem.boot_len (pa_cons (pv 5) pa_nil)) (pe_op op_add (pv 4) pe_int) (nomark _)))))))))))))), ?_⟩
    have hrs := S.l
    obtain ⟨sl1, sl2⟩ := S.len
    -- the first fault's place
    refine ⟨_, rfl, rfl, _, rfl, ite2 (fun z => ?ca) (fun z => ?cb)⟩
    case' ca =>
      have eo : o = none := by
        rcases hdue with ⟨e, _⟩ | ⟨r, t, _, e, _⟩
        · exact e
        · rw [e] at z
          exact absurd (of_decide_eq_true z) (by nofun)
      refine ⟨_, rfl, l, _, rfl, .inl (SqL.of hl), ?_⟩
      rw [sl2 eo]
    case' cb =>
      obtain ⟨r0, t0, eo, ed, ht0⟩ : ∃ r t, o = some r ∧ due = .ref t ∧ H t = some (.tup [.str "CLASS", .str r, .int (rs.length : Nat)]) := by
        rcases hdue with ⟨_, e⟩ | h
        · exact absurd (decide_eq_true e) z
        · exact h
      refine ⟨_, rfl, t0, _, _, _, ed, rfl, SqT.of ht0, atI_nat (j := 2) rfl, ?_⟩
    all_goals
      clear z
      have cst : ∀ j : Nat, cutV vs none (some (j : Int)) = vs.take j := fun j => cutV_to vs j
      refine ⟨_, rfl, _, rfl, 30, ((rs.length : Nat) : Int), rfl, ?_⟩
      have e30 : (if ((rs.length : Nat) : Int) < 30 then ((rs.length : Nat) : Int) else 30) = ((rs.length : Nat) : Int) := by
        by_cases h : ((rs.length : Nat) : Int) < 30
        · rw [if_pos h]
        · rw [if_neg h]; omega
      rw [e30]
      refine ⟨_, _, rfl, rfl, p, c, ns, n, _, rfl, P0, by omega, by omega, by omega, fun dv H1 d0 d1 k1 P1 => ?_⟩
      obtain ⟨cut, rfl⟩ : ∃ j : Nat, dv = (j : Int) := ⟨dv.toNat, (Int.toNat_of_nonneg d0).symm⟩
      have hcut : cut ≤ rs.length := by omega
      have kn1 := KN.keep P0 P1 k1
      have S1 := S.kn kn1
      have tb1 := Tabs.kp tb0 P0 k1
      have hl1 := k1 _ _ hl nl
      have due1 := hdue.kn kn1
      -- built
      refine ⟨rfl, _, rfl, _, rfl, _, rfl, l, _, rfl, SqL.of hl1, fun q hq => ?_⟩
      rw [cst]
      have s1 : Same H1 (upd H1 q (.lst (vs.take cut))) := (Same.refl H1).put hq
      have e1 : (upd H1 q (.lst (vs.take cut))) q = some (.lst (vs.take cut)) := upd_same
      generalize upd H1 q (.lst (vs.take cut)) = H2 at s1 e1 ⊢
      have S2 := S1.same s1
      have P2 := P1.same s1
      obtain ⟨tc, etc, Rc⟩ := S2.to hcut
      have gc : Good (rs.take cut) := S.g.cut cut
      have lc : (rs.take cut).length = cut := by rw [List.length_take]; omega
      refine ⟨q, tc, rs.take cut, rfl, by rw [e1, etc], Rc, gc, by omega, fun b H3 cb s2 => ?_⟩
      have s13 := s1.trans s2
      have S3 := S2.same s2
      have P3 := P2.same s2
      have hl3 := s13 _ _ hl1
      have tb3 := Tabs.same tb1 s13
      have due3 := due1.same s13
      -- rest
      refine ⟨_, rfl, _, rfl, _, rfl, _, rfl, _, _, rfl, rfl, _, rfl, l, _, rfl, SqL.of hl3, fun rq hrq => ?_⟩
      rw [cutV_mid vs cut (by omega)]
      have s3 : Same H3 (upd H3 rq (.lst ((vs.drop cut).take 2))) := (Same.refl H3).put hrq
      have e3 : (upd H3 rq (.lst ((vs.drop cut).take 2))) rq = some (.lst ((vs.drop cut).take 2)) := upd_same
      generalize upd H3 rq (.lst ((vs.drop cut).take 2)) = H4 at s3 e3 ⊢
      have S4 := S3.same s3
      have P4 := P3.same s3
      have hl4 := s3 _ _ hl3
      have tb4 := Tabs.same tb3 s3
      have due4 := due3.same s3
      have cb4 := cb.same s3
      refine ⟨_, rfl, rq, _, rfl, .inl (SqL.of e3), _, _, rfl, rfl, _, rfl, ite2 (fun z => ?_) (fun z => ?_)⟩
      · -- no rest
        obtain ⟨dx, rr, nn, ll, kvs, ts2, c1, _, _, _, c5, c6⟩ := cb4
        refine ⟨_, rfl, b, C, dx, _, _, rfl, c1, Y.cl, Y.nR, flds_rows _ _ _, _, rfl, _, rfl, _, rfl, l, _, rfl, SqL.of hl4, fun q5 hq5 => ?_⟩
        rw [cst]
        have s5 : Same H4 (upd H4 q5 (.lst (vs.take cut))) := (Same.refl H4).put hq5
        have e5 : (upd H4 q5 (.lst (vs.take cut))) q5 = some (.lst (vs.take cut)) := upd_same
        generalize upd H4 q5 (.lst (vs.take cut)) = H5 at s5 e5 ⊢
        refine ⟨q5, _, rfl, .inl ⟨SqL.of e5, fun t6 ht6 => ?_⟩⟩
        have s6 : Same H5 (upd H5 t6 (.tup (vs.take cut))) := (Same.refl H5).put ht6
        have e6 : (upd H5 t6 (.tup (vs.take cut))) t6 = some (.tup (vs.take cut)) := upd_same
        generalize upd H5 t6 (.tup (vs.take cut)) = H6 at s6 e6 ⊢
        have s46 := s5.trans s6
        have fit := gc.fit (by omega)
        obtain ⟨tc6, etc6, Rc6⟩ := (S4.same s46).to hcut
        rw [etc6] at e6
        refine ⟨rowsD (rs.take cut), rowsD (rs.take cut), .tup (SqT.of (s46 _ _ c5)) (rows_dp K _ _ (c6.mono fun b r e => s46 _ _ e)), .tup (SqT.of e6) (rows_dp K _ _ Rc6), rowsD_shaped fit, rowsD_shaped fit, ?_⟩
        rw [rowsD_eqv, decide_eq_true rfl]
        exact kQ H6 ((P4.same s46).mono (by omega)) (Tabs.same tb4 s46)
      -- behind the rows that stand
      have z2 : 2 ≤ ((vs.drop cut).take 2).length := by
        have h9 : ¬ ((((vs.drop cut).take 2).length : Nat) : Int) < 2 := fun q => z (decide_eq_true q)
        omega
      obtain ⟨v0, v1, ev⟩ : ∃ v0 v1, (vs.drop cut).take 2 = [v0, v1] := by
        have l2 := List.length_take_le 2 (vs.drop cut)
        match hh : (vs.drop cut).take 2 with
        | [] => rw [hh] at z2; simp at z2
        | [_] => rw [hh] at z2; simp at z2
        | [x, y] => exact ⟨x, y, rfl⟩
        | _ :: _ :: _ :: _ => rw [hh] at l2; simp at l2
      have B := rest2 S4 hcut z2
      rw [ev] at B e3
      clear z z2
      refine ⟨tb4, fun H5 x5 tb5 => ?_⟩
      have kn5 := KN.ext P4 x5
      have P5 := P4.extN x5
      have S5 := S4.kn kn5
      have due5 := due4.kn kn5
      have hl5 := x5 _ _ hl4 (by nofun)
      have e5 := x5 _ _ e3 (by nofun)
      have cb5 := cb4.extN x5
      obtain ⟨dxf, fsf, hf1, hf2⟩ := cb5.ins
      have hfw := hf2 "with_rows" (by decide +kernel) (by decide +kernel) (by decide +kernel)
      have B5 := rest2 S5 hcut (by rw [ev]; exact Nat.le_refl _)
      rw [ev] at B5
      refine ⟨_, rfl, b, dxf, fsf, rfl, hf1, hfw, _, rfl, rq, _, _, _, rfl, rfl, SqL.of e5, atI_nat (j := 0) rfl, _, rfl, rq, _, _, _, rfl, rfl, SqL.of e5, atI_nat (j := 1) rfl, hear_wr hCls S5.g S5.l hcut cb5 (Nat.le_refl _) B5 (fun v H' h => h) fun hv Hk sk hh => ?_⟩
      have S6 := S5.same sk
      have due6 := due5.same sk
      have P6 := P5.same sk
      have hl6 := sk _ _ hl5
      have tb6 := Tabs.same tb5 sk
      have cb6 := cb5.same sk
      clear S S1 S2 S3 S4 due1 due3 due4 due5 P0 P1 P2 P3 P4 P5 tb0 tb1 tb3 tb4 tb5 cb cb4 cb5 B B5 hdue kn1 kn5
      refine ⟨_, rfl, rfl, _, rfl, ite2 (fun z => ?_) (fun z => ?_)⟩
      · obtain ⟨r, t, eo, ed, ht⟩ : ∃ r t, o = some r ∧ due = .ref t ∧ Hk t = some (.tup [.str "CLASS", .str r, .int (rs.length : Nat)]) := by
          rcases due6 with ⟨_, e⟩ | h
          · rw [e] at z
            exact absurd z (by decide)
          · exact h
        refine ⟨_, rfl, t, _, _, _, ed, rfl, SqT.of ht, atI_nat (j := 2) rfl, _, rfl, _, _, rfl, rfl, _, _, rfl, rfl, _, rfl, ite2 (fun z2 => ?_) (fun z2 => ?_)⟩
        · have z3 : ((rs.length : Nat) : Int) < (cut : Int) + 2 := of_decide_eq_true z2
          obtain ⟨a, ea, ha⟩ : ∃ a, hv = .ref a ∧ Hk a = some (.tup [.str "CLASS", .str r, .int (rs.length : Nat)]) := by
            rw [if_pos (by omega), eo] at hh
            rcases hh with ⟨e, _⟩ | ⟨r', a, e1, e2, e3⟩
            · cases e
            · cases e1
              exact ⟨a, e2, e3⟩
          have ok := wtD_ok rs.length hrs r (by rw [eo] at S6; exact S6.rsn)
          refine ⟨_, rfl, _, rfl, .inr ⟨a, _, by rw [ea]; rfl, ha, .inr ⟨a, wtD r rs.length, rfl, wtD_dp ha, ok.1, ok.2.1, ok.2.2.1, ok.2.2.2, _, rfl, .inr ⟨t, wtD r rs.length, by rw [ed], wtD_dp ht, ok.1, ok.2.1, ok.2.2.1, ok.2.2.2, rfl, _, rfl, ite2 (fun z => absurd z (by simp)) fun _ => ?_⟩⟩⟩⟩
          -- what stands
          obtain ⟨dx, rr, nn, ll, kvs, ts2, c1, _, _, _, c5, c6⟩ := id cb6
          have fit := gc.fit (by omega)
          have d2 : (rowsD (rs.take cut)).depth ≤ 8 := Nat.le_trans (rowsD_depth _) (by decide)
          refine ⟨_, rfl, b, C, dx, _, _, rfl, c1, Y.cl, Y.nR, flds_rows _ _ _, .inr ⟨rr, rowsD (rs.take cut), rfl, .tup (SqT.of c5) (rows_dp K _ _ c6), rowsD_show _, rowsD_nodict _, d2, rowsD_fits fit (by omega), _, rfl, _, rfl, _, rfl, l, _, rfl, SqL.of hl6, fun q7 hq7 => ?_⟩⟩
          rw [cst]
          have s7 : Same Hk (upd Hk q7 (.lst (vs.take cut))) := (Same.refl Hk).put hq7
          have e7 : (upd Hk q7 (.lst (vs.take cut))) q7 = some (.lst (vs.take cut)) := upd_same
          generalize upd Hk q7 (.lst (vs.take cut)) = H7 at s7 e7 ⊢
          refine ⟨q7, _, rfl, .inl ⟨SqL.of e7, fun t8 ht8 => ?_⟩⟩
          have s8 : Same H7 (upd H7 t8 (.tup (vs.take cut))) := (Same.refl H7).put ht8
          have e8 : (upd H7 t8 (.tup (vs.take cut))) t8 = some (.tup (vs.take cut)) := upd_same
          generalize upd H7 t8 (.tup (vs.take cut)) = H8 at s8 e8 ⊢
          have s68 := s7.trans s8
          obtain ⟨tc8, etc8, Rc8⟩ := (S6.same s68).to hcut
          rw [etc8] at e8
          refine .inr ⟨t8, rowsD (rs.take cut), rfl, .tup (SqT.of e8) (rows_dp K _ _ Rc8), rowsD_show _, rowsD_nodict _, d2, rowsD_fits fit (by omega), ?_⟩
          refine ⟨rfl, _, rfl, ?_⟩
          rw [decide_eq_true rfl]
          refine iteT ⟨_, rfl, b, dx, _, rfl, s68 _ _ c1, b, rs.take cut, rfl, cb6.same s68, _, rfl, by omega, ?_⟩
          refine ⟨_, rfl, _, _, rfl, rfl, rfl, ?_⟩
          rw [lc, show decide (V.int ((cut + 2 : Nat) : Int) = V.int ((cut : Int) + 2)) = true by rw [decide_eq_true_eq]; push_cast; rfl]
          exact kQ _ ((P6.same s68).mono (by omega)) (Tabs.same tb6 s68)
        · have z3 : ¬ (((rs.length : Nat) : Int) < (cut : Int) + 2) := fun q => z2 (decide_eq_true q)
          obtain ⟨a, ys, ea, ha⟩ : ∃ a ys, hv = .ref a ∧ Hk a = some (.lst ys) := by
            rw [if_neg (by omega)] at hh
            rcases hh with ⟨_, h⟩ | ⟨r', a, e1, _⟩
            · exact h
            · cases e1
          refine ⟨_, rfl, .inl ⟨a, _, by rw [ea]; rfl, ha, .inl ⟨rfl, _, rfl, .inl ⟨rfl, rfl, _, rfl, ite2 (fun z => absurd z (by simp)) fun _ => ?_⟩⟩⟩⟩
          -- what stands
          obtain ⟨dx, rr, nn, ll, kvs, ts2, c1, _, _, _, c5, c6⟩ := id cb6
          have fit := gc.fit (by omega)
          have d2 : (rowsD (rs.take cut)).depth ≤ 8 := Nat.le_trans (rowsD_depth _) (by decide)
          refine ⟨_, rfl, b, C, dx, _, _, rfl, c1, Y.cl, Y.nR, flds_rows _ _ _, .inr ⟨rr, rowsD (rs.take cut), rfl, .tup (SqT.of c5) (rows_dp K _ _ c6), rowsD_show _, rowsD_nodict _, d2, rowsD_fits fit (by omega), _, rfl, _, rfl, _, rfl, l, _, rfl, SqL.of hl6, fun q7 hq7 => ?_⟩⟩
          rw [cst]
          have s7 : Same Hk (upd Hk q7 (.lst (vs.take cut))) := (Same.refl Hk).put hq7
          have e7 : (upd Hk q7 (.lst (vs.take cut))) q7 = some (.lst (vs.take cut)) := upd_same
          generalize upd Hk q7 (.lst (vs.take cut)) = H7 at s7 e7 ⊢
          refine ⟨q7, _, rfl, .inl ⟨SqL.of e7, fun t8 ht8 => ?_⟩⟩
          have s8 : Same H7 (upd H7 t8 (.tup (vs.take cut))) := (Same.refl H7).put ht8
          have e8 : (upd H7 t8 (.tup (vs.take cut))) t8 = some (.tup (vs.take cut)) := upd_same
          generalize upd H7 t8 (.tup (vs.take cut)) = H8 at s8 e8 ⊢
          have s68 := s7.trans s8
          obtain ⟨tc8, etc8, Rc8⟩ := (S6.same s68).to hcut
          rw [etc8] at e8
          refine .inr ⟨t8, rowsD (rs.take cut), rfl, .tup (SqT.of e8) (rows_dp K _ _ Rc8), rowsD_show _, rowsD_nodict _, d2, rowsD_fits fit (by omega), ?_⟩
          refine ⟨rfl, _, rfl, ?_⟩
          rw [decide_eq_true rfl]
          refine iteT ⟨_, rfl, b, dx, _, rfl, s68 _ _ c1, b, rs.take cut, rfl, cb6.same s68, _, rfl, by omega, ?_⟩
          refine ⟨_, rfl, _, _, rfl, rfl, rfl, ?_⟩
          rw [lc, show decide (V.int ((cut + 2 : Nat) : Int) = V.int ((cut : Int) + 2)) = true by rw [decide_eq_true_eq]; push_cast; rfl]
          exact kQ _ ((P6.same s68).mono (by omega)) (Tabs.same tb6 s68)
      · have eo : o = none := by
          rcases due6 with ⟨e, _⟩ | ⟨r, t, _, e, _⟩
          · exact e
          · rw [e] at z
            exact absurd rfl z
        obtain ⟨a, ys, ea, ha⟩ : ∃ a ys, hv = .ref a ∧ Hk a = some (.lst ys) := by
          rw [eo, ite_self] at hh
          rcases hh with ⟨_, h⟩ | ⟨r', a, e1, _⟩
          · exact h
          · cases e1
        refine ⟨_, rfl, .inl ⟨a, _, by rw [ea]; rfl, ha, .inl ⟨rfl, _, rfl, .inl ⟨rfl, rfl, _, rfl, ite2 (fun z => absurd z (by simp)) fun _ => ?_⟩⟩⟩⟩
        -- what stands
        obtain ⟨dx, rr, nn, ll, kvs, ts2, c1, _, _, _, c5, c6⟩ := id cb6
        have fit := gc.fit (by omega)
        have d2 : (rowsD (rs.take cut)).depth ≤ 8 := Nat.le_trans (rowsD_depth _) (by decide)
        refine ⟨_, rfl, b, C, dx, _, _, rfl, c1, Y.cl, Y.nR, flds_rows _ _ _, .inr ⟨rr, rowsD (rs.take cut), rfl, .tup (SqT.of c5) (rows_dp K _ _ c6), rowsD_show _, rowsD_nodict _, d2, rowsD_fits fit (by omega), _, rfl, _, rfl, _, rfl, l, _, rfl, SqL.of hl6, fun q7 hq7 => ?_⟩⟩
        rw [cst]
        have s7 : Same Hk (upd Hk q7 (.lst (vs.take cut))) := (Same.refl Hk).put hq7
        have e7 : (upd Hk q7 (.lst (vs.take cut))) q7 = some (.lst (vs.take cut)) := upd_same
        generalize upd Hk q7 (.lst (vs.take cut)) = H7 at s7 e7 ⊢
        refine ⟨q7, _, rfl, .inl ⟨SqL.of e7, fun t8 ht8 => ?_⟩⟩
        have s8 : Same H7 (upd H7 t8 (.tup (vs.take cut))) := (Same.refl H7).put ht8
        have e8 : (upd H7 t8 (.tup (vs.take cut))) t8 = some (.tup (vs.take cut)) := upd_same
        generalize upd H7 t8 (.tup (vs.take cut)) = H8 at s8 e8 ⊢
        have s68 := s7.trans s8
        obtain ⟨tc8, etc8, Rc8⟩ := (S6.same s68).to hcut
        rw [etc8] at e8
        refine .inr ⟨t8, rowsD (rs.take cut), rfl, .tup (SqT.of e8) (rows_dp K _ _ Rc8), rowsD_show _, rowsD_nodict _, d2, rowsD_fits fit (by omega), ?_⟩
        refine ⟨rfl, _, rfl, ?_⟩
        rw [decide_eq_true rfl]
        refine iteT ⟨_, rfl, b, dx, _, rfl, s68 _ _ c1, b, rs.take cut, rfl, cb6.same s68, _, rfl, by omega, ?_⟩
        refine ⟨_, rfl, _, _, rfl, rfl, rfl, ?_⟩
        rw [lc, show decide (V.int ((cut + 2 : Nat) : Int) = V.int ((cut : Int) + 2)) = true by rw [decide_eq_true_eq]; push_cast; rfl]
        exact kQ _ ((P6.same s68).mono (by omega)) (Tabs.same tb6 s68)
end
end K2
end
section
set_option Elab.async false
set_option maxRecDepth 100000
set_option linter.all false
namespace K2
open PySem L2 LamX PySem.Spec PyProof.Rows
abbrev sPen : Stmt := top 27
abbrev sLaw : Stmt := top 45
def spPen (K : PySem.W.Frag) : Sp := fun vs H Q _ => ∃ (a : Addr) (ns : List Int), vs = [.ref a] ∧ SqL K H a (ns.map V.int) ∧ ns.length ≤ 63 ∧ ∀ (p c : Addr) (H' : Hp), Pen H' p c ns 0 → Same H H' → Q (.ref p) H'
def spLaw (K : PySem.W.Frag) (PT PT2 : Addr) : Sp := fun vs H Q _ => ∃ (a : Addr) (ns : List Int), vs = [.ref a] ∧ SqL K H a (ns.map V.int) ∧ ns.length ≤ 63 ∧ H PT = some (.tbl #[]) ∧ H PT2 = some (.tbl #[]) ∧ ∀ H', Q (.bl true) H'
theorem cut63 (ns : List Int) (h : ns.length ≤ 63) : cutV (ns.map V.int) none (some 63) = ns.map V.int := by
  unfold cutV
  rw [show (63 : Int) = ((63 : Nat) : Int) from rfl, HT.sIx_nat, HT.sIx_none, List.drop_zero, Nat.sub_zero, List.length_map, Nat.min_eq_right h]
  rw [List.take_of_length_le (by rw [List.length_map]; exact Nat.le_refl _)]
abbrev nLaw : List Str := ["_law_script", "_law_pen_here", "_law_turn", "_law_many", "_law_rows_here", "_law_due_here", "_law_first", "_law_heard_here"]
theorem pe_imp {X : Cx} {e : Expr} {t t' : TE} (h : PE X e t) (k : ∀ σ H Q, t' σ H Q → t σ H Q) : PE X e t' := ⟨fun pins s σ H Q I q => h.run pins s σ H Q I (k σ H Q q)⟩
theorem pt_imp {X : Cx} {e : Expr} {t t' : TT} (h : PT X e t) (k : ∀ σ H Q, t' σ H Q → t σ H Q) : PT X e t' := ⟨fun pins s σ H Q I q => h.run pins s σ H Q I (k σ H Q q)⟩
/-- the first fault's place, or the length -/
def tFirst (i j : Nat) : TE := fun σ H Q => ∃ (l : Addr) (vs : List V) (rs : List Row) (o : Option Str) (due : V), σ[i]? = some (some (.ref l)) ∧ σ[j]? = some (some due) ∧ H l = some (.lst vs) ∧ (o = none → vs.length = rs.length) ∧ DueV H rs o due ∧ Q (.int ((rs.length : Nat) : Int)) H
theorem first_imp {K : PySem.W.Frag} {i j : Nat} (σ : L2.St) (H : Hp) (Q : VK) (h : tFirst i j σ H Q) :
    tIf (tTest (tOp (fun x y H Q => y = V.non ∧ Q (V.bl (decide (x = V.non))) H) (tVar j) (tC V.non))) (tCB (fun xs H Q => ∃ p ys, xs = [V.ref p] ∧ (SqL K H p ys ∨ SqT K H p ys) ∧ Q (V.int (ys.length : Int)) H) (tCons (tVar i) tNil)) (tOp (rIxT K) (tVar j) (tC (V.int 2))) σ H Q := by
  obtain ⟨l, vs, rs, o, due, h1, h2, h3, h4, hd, q⟩ := h
  refine ⟨_, h2, rfl, _, rfl, ite2 (fun z => ?_) (fun z => ?_)⟩
  · have eo : o = none := by
      rcases hd with ⟨e, _⟩ | ⟨r, t, _, e, _⟩
      · exact e
      · rw [e] at z
        exact absurd (of_decide_eq_true z) (by nofun)
    refine ⟨_, h1, l, _, rfl, .inl (SqL.of h3), ?_⟩
    rw [h4 eo]
    exact q
  · obtain ⟨r0, t0, eo, ed, ht0⟩ : ∃ r t, o = some r ∧ due = .ref t ∧ H t = some (.tup [.str "CLASS", .str r, .int (rs.length : Nat)]) := by
      rcases hd with ⟨_, e⟩ | h
      · exact absurd (decide_eq_true e) z
      · exact h
    exact ⟨_, h2, t0, _, _, _, ed, rfl, SqT.of ht0, atI_nat (j := 2) rfl, q⟩
/-- what was heard is what is due -/
def Told (hv : V) (Hk : Hp) (due : V) : Prop := ∃ (rs : List Row) (o : Option Str), Heard Hk o rs.length hv ∧ DueV Hk rs o due ∧ rs.length ≤ 30 ∧ ∀ r, o = some r → r ∈ reasons
def tTold (te : TE) (j : Nat) : TT := fun σ H Q => ∀ Q' : VK, (∀ hv Hk due, σ[j]? = some (some due) → Told hv Hk due → Q false Hk → Q' hv Hk) → te σ H Q'
theorem told_imp {K : PySem.W.Frag} {te : TE} {j : Nat} (σ : L2.St) (H : Hp) (Q : Bool → Hp → Prop) (h : tTold te j σ H Q) :
    tTest (tOp rNe (tCB (rReprU K) (tCons (tCall spEr [] E0 (tCons te tNil)) tNil)) (tCB (rReprU K) (tCons (tVar j) tNil))) σ H Q := by
  refine h _ fun hv Hk due h1 ⟨rs, o, hh, hd, h30, hr⟩ q => ?_
  have ne : ∀ x : Str, (V.bl (!decide (V.str x = V.str x))) = V.bl false := fun x => by simp
  rcases hh with ⟨eo, a, ys, ea, ha⟩ | ⟨r, a, eo, ea, ha⟩
  · obtain ed : due = .non := by
      rcases hd with ⟨_, e⟩ | ⟨r, t, e, _, _⟩
      · exact e
      · rw [eo] at e; cases e
    refine .inl ⟨a, ys, by rw [ea]; rfl, ha, .inl ⟨rfl, _, h1, .inl ⟨by rw [ed], rfl, _, rfl, ?_⟩⟩⟩
    simpa using q
  · obtain ⟨t, ed, ht⟩ : ∃ t, due = .ref t ∧ Hk t = some (.tup [.str "CLASS", .str r, .int (rs.length : Nat)]) := by
      rcases hd with ⟨e, _⟩ | ⟨r', t, e, e2, e3⟩
      · rw [eo] at e; cases e
      · rw [eo] at e; cases e
        exact ⟨t, e2, e3⟩
    have ok := wtD_ok rs.length h30 r (hr r eo)
    refine .inr ⟨a, _, by rw [ea]; rfl, ha, .inr ⟨a, wtD r rs.length, rfl, wtD_dp ha, ok.1, ok.2.1, ok.2.2.1, ok.2.2.2, _, h1, .inr ⟨t, wtD r rs.length, by rw [ed], wtD_dp ht, ok.1, ok.2.1, ok.2.2.1, ok.2.2.2, rfl, _, rfl, ?_⟩⟩⟩
    simpa using q
section
variable {P : Program} {w : World} {K : PySem.W.Frag} {mg : Str → Option Value} {base : Heap}
theorem scPen : FnScope ["_law_script"] ["_law_script"] (defScope sPen) := ⟨rfl, rfl, rfl, by decide +kernel, rfl, by decide +kernel, by decide +kernel⟩
theorem scLaw : FnScope nLaw ["_law_script"] (defScope sLaw) := ⟨rfl, rfl, rfl, by decide +kernel, rfl, by decide +kernel, by decide +kernel⟩
theorem ok_pen {f : Addr} {fd : FuncData} (F : Fun K "_law_pen" "_law_pen" sPen f fd) (T : Bi mg) : FnOk P w K mg base CX0 1 f fd ["_law_script"] (spPen K) := by
  refine F.ok scPen (fun vs H Q E h => ?_) (fun cdv A outer s H vs Q E hr h => ?_)
  · obtain ⟨a, ns, rfl, _⟩ := h
    rfl
  · obtain ⟨a, ns, rfl, hS, hl, k⟩ := h
    refine ⟨_, (pss_one (ps_ret (pe_lst (pa_cons (pe_callTy call_list_of (by rfl) T.list (by decide +kernel) (pa_cons (pe_slice sl_list (pv 0) po_none (po_some pe_int)) pa_nil)) (pa_cons pe_int (pa_cons pe_int pa_nil)))))), ?_⟩
    refine ⟨_, rfl, _, rfl, a, _, rfl, hS, fun q hq => ⟨q, _, rfl, .inl (SqL.of upd_same), fun c hc => ⟨(by show 3 ≤ sizeLine; decide), fun p hp => ?_⟩⟩⟩
    rw [cut63 ns hl] at hc hp ⊢
    have hcp : c ≠ p := ne_of_none upd_same hp
    have s1 := ((Same.refl H).put (o := .lst (ns.map V.int)) hq)
    have s2 := s1.put (o := .lst (ns.map V.int)) (s1.free hc)
    exact k p c _ ⟨⟨0, 0, upd_same, by decide, by decide, by decide⟩, by rw [upd_ne hcp, upd_same], hl⟩ (s2.put (s2.free hp))
end
end K2
end
section
set_option Elab.async false
set_option maxRecDepth 100000
set_option linter.all false
namespace K2
open PySem L2 LamX PySem.Spec PyProof.Rows
/-- x(..) with no things -/
theorem split_nil {K : PySem.W.Frag} {H : Hp} : Split K H [] [] none := ⟨good_nil, Nat.zero_le _, fun r h => (by cases h), [], rowsAt_nil _, .inl ⟨rfl, rfl⟩⟩
theorem spInitR_mono {C : Addr} {vs : List V} {H : Hp} {Q Q' : VK} {E : XK} (h : spInitR C vs H Q E) (m : ∀ v H', Q v H' → Q' v H') : spInitR C vs H Q' E := by
  obtain ⟨ws, rest, e, l, s, k⟩ := h
  refine ⟨ws, rest, e, l, s, fun p hp => ?_⟩
  obtain ⟨p', dx, rt, ts, rs, a1, a2, a3, a4, a5, a6, kk⟩ := k p hp
  exact ⟨p', dx, rt, ts, rs, a1, a2, a3, a4, a5, a6, fun H' c s => m _ _ (kk H' c s)⟩
theorem hear_init {K : PySem.W.Frag} {cl : Str → Addr} {C CN : Addr} (hCls : OfClass K cl CN) {H : Hp} {xs : List V} {rs : List Row} {o : Option Str} {Q : VK} {R : Addr → VK} (S : Split K H xs rs o) (h64 : xs.length ≤ 64) (hR : ∀ x v H2, (v = .non ∧ QL Q (.ref x) H2) → R x v H2)
    (k : ∀ hv Hk, Same H Hk → Heard Hk o rs.length hv → Q hv Hk) : ∀ x dx, H x = none → H dx = none → dx ≠ x → spInitR C (V.ref x :: xs) (upd (upd H dx (.own x)) x (.ins C dx [])) (R x) (HMC K cl Q) ∨ spInitXR K C CN (V.ref x :: xs) (upd (upd H dx (.own x)) x (.ins C dx [])) (R x) (HMC K cl Q) := by
  intro x dx n1 n2 ne
  rcases initR2 (CN := CN) S h64 (ans_heard hCls (fun v H' h => h) k) x dx n1 n2 ne with h | h
  · exact .inl (spInitR_mono h fun v H' q => hR x v H' q)
  · exact .inr h
def tDue (K : PySem.W.Frag) (j : Nat) : TE := fun σ H Q => ∃ (l : Addr) (vs : List V) (rs : List Row) (o : Option Str), σ[j]? = some (some (.ref l)) ∧ H l = some (.lst vs) ∧ vs.length ≤ 64 ∧ Split K H vs rs o ∧ ∀ dv H', Same H H' → DueV H' rs o dv → Q dv H'
theorem due_imp {K : PySem.W.Frag} {j : Nat} (σ : L2.St) (H : Hp) (Q : VK) (h : tDue K j σ H Q) : tCall (spDue K) [] E0 (tCons (tVar j) tNil) σ H Q := by
  obtain ⟨l, vs, rs, o, h1, hl, h64, S, k⟩ := h
  exact ⟨_, h1, l, vs, rs, o, rfl, hl, h64, S, fun eo H' s => k _ _ s (.inl ⟨eo, rfl⟩), fun r eo t H' s ht => k _ _ s (.inr ⟨r, t, eo, rfl, ht⟩)⟩
/-- the rows lighter, the rest as it was -/
theorem Split.light {K : PySem.W.Frag} {H : Hp} {vs : List V} {rs qs : List Row} {o : Option Str} {ts : List Addr} (S : Split K H vs rs o) (g : Good qs) (l : qs.length = rs.length) (nm : qs.map (·.1) = rs.map (·.1)) (R : RowsAt H ts qs) : Split K H (ts.map V.ref ++ vs.drop rs.length) qs o := by
  obtain ⟨ts0, R0, e⟩ := S.ex
  refine ⟨g, by rw [l]; exact S.l, fun r hr => Nat.le_trans (g.nar (by rw [l]; exact Nat.le_trans S.l (by decide)) r hr) (by decide), ts, R, ?_⟩
  rcases e with ⟨e1, e⟩ | ⟨r, v, more, e1, e, F⟩
  · refine .inl ⟨e1, ?_⟩
    rw [e, List.drop_of_length_le (by rw [List.length_map, R0.1]; exact Nat.le_refl _), List.append_nil]
  · refine .inr ⟨r, v, more, e1, ?_, ?_⟩
    · rw [e, List.drop_append_of_le_length (by rw [List.length_map, R0.1]; exact Nat.le_refl _), List.drop_of_length_le (by rw [List.length_map, R0.1]; exact Nat.le_refl _), List.nil_append]
    · rw [keys_ups, nm, ← keys_ups, l]
      exact F
theorem row_rv {p c : Addr} {ns : List Int} {n : Nat} {H : Hp} {ts : List Addr} {rs : List Row} (P : Pen H p c ns n) (g : Good rs) (l : rs.length ≤ 31) (R : RowsAt H ts rs) : ∀ v ∈ ts.map V.ref, RV H p 40 v := by
  intro v hv
  obtain ⟨t, ht, rfl⟩ := List.mem_map.mp hv
  obtain ⟨i, hi⟩ := List.getElem?_of_mem ht
  have il : i < ts.length := (List.getElem?_eq_some_iff.mp hi).1
  obtain ⟨r, hr⟩ : ∃ r, rs[i]? = some r := ⟨_, List.getElem?_eq_getElem (by rw [← R.1]; exact il)⟩
  have e := R.2 i t r hi hr
  have ok := g i r hr
  have na := g.nar l r (List.mem_of_getElem? hr)
  refine .tup e (P.tup_ne e) ?_ fun x hx => ?_
  · rw [List.length_map, List.length_cons]
    omega
  · obtain ⟨y, hy, rfl⟩ := List.mem_map.mp hx
    have vw : VW y := by
      rcases List.mem_cons.mp hy with rfl | hy
      · exact ok.vw
      · exact g.vw_known i y (ok.sub y hy)
    refine .str y ?_
    have := vw.le
    rw [← len_codes] at this
    show _ ≤ 16777216
    omega
theorem DueV.len {H : Hp} {rs qs : List Row} {o : Option Str} {v : V} (h : DueV H rs o v) (e : qs.length = rs.length) : DueV H qs o v := by
  unfold DueV
  rw [e]
  exact h
theorem ps_imp {X : Cx} {st : Stmt} {t t' : TS} (h : PS X st t) (k : ∀ D σ H, t' D σ H → t D σ H) : PS X st t' := ⟨fun pins s σ H D I q => h.run pins s σ H D I (k D σ H q)⟩
def tMore : TS := fun D σ H => ∃ (p c : Addr) (ns : List Int) (n : Nat) (l : Addr) (vs : List V), σ[1]? = some (some (.ref p)) ∧ σ[4]? = some (some (.ref l)) ∧ Pen H p c ns n ∧ n + 2 ≤ 100000 ∧ H l = some (.lst vs) ∧ l ≠ p ∧ vs.length ≤ 30 ∧ (∀ v ∈ vs, RV H p 40 v) ∧
  ∀ (l' : Addr) (vs' : List V) (H' : Hp), H' l' = some (.lst vs') → l' ≠ p → vs'.length ≤ 33 → (∀ v ∈ vs', RV H' p 40 v) → Keep p H H' → Pen H' p c ns (n + 1) → D.nx (σ.set 4 (some (.ref l'))) H'
theorem set_self {σ : L2.St} {i : Nat} {x : Option V} (h : σ[i]? = some x) : σ.set i x = σ := by
  apply List.ext_getElem?
  intro j
  rw [List.getElem?_set]
  by_cases e : i = j
  · subst e
    rw [if_pos rfl, h]
    split
    · rfl
    · rename_i q
      rw [List.getElem?_eq_none (by omega)] at h
      cases h
  · rw [if_neg e]
section
variable {P : Program} {w : World} {K : PySem.W.Frag} {mg : Str → Option Value} {base : Heap}
set_option maxHeartbeats 4000000 in
theorem ok_law {f fPn fD fP fB fR fSp fDu fLi fHe fE fPR fM fI pM C CN c PT PT2 : Addr} {mc : Value} {cl : Str → Addr} {fd fdPn fdD fdP fdB fdR fdSp fdDu fdLi fdHe fdE fdPR fdM : FuncData} (F : Fun K "law" "law" sLaw f fd) (hc : fd.code = .ref c) (TB1 : TabB base mg c PT) (npt : PT ≠ PT2) (T : Bi mg) (tVE : mg "ValueError" = none) (hcl : ∀ x ∈ errs, mg x = some (.ref (cl x))) (hCls : OfClass K cl CN) (Y : Txt K mg C) (M : Mk K C fI)
    (PN : Df K mg "_law_pen" sPen fPn fdPn ["_law_script"]) (GPn : FnOk P w K mg base CX0 1 fPn fdPn ["_law_script"] (spPen K))
    (D : Df K mg "_law_draw" sDraw fD fdD ["_law_pen_here", "_law_many"]) (GD : FnOk P w K mg base CX0 1 fD fdD ["_law_pen_here", "_law_many"] spDraw) (PK : Df K mg "_law_pick" sPick fP fdP ["_law_pen_here", "_law_some"]) (GP : FnOk P w K mg base CX0 2 fP fdP ["_law_pen_here", "_law_some"] spPick)
    (BE : Df K mg "_law_begun" sBegun fB fdB ["_law_pen_here", "_law_many"]) (GB : FnOk P w K mg base CX0 4 fB fdB ["_law_pen_here", "_law_many"] spBegun) (RS : Df K mg "_law_rows" sRows fR fdR ["_law_pen_here", "_law_words_here"]) (GR : FnOk P w K mg base CX0 4 fR fdR ["_law_pen_here", "_law_words_here"] spRows)
    (SP : Df K mg "_law_spoiled" sSp fSp fdSp ["_law_pen_here", "_law_rows_here"]) (GSp : FnOk P w K mg base CX0 5 fSp fdSp ["_law_pen_here", "_law_rows_here"] spSp) (DU : Df K mg "_law_due" sDue fDu fdDu ["_law_rows_here"]) (GDu : FnOk P w K mg base CX0 3 fDu fdDu ["_law_rows_here"] (spDue K))
    (LI : Df K mg "_law_light" sLight fLi fdLi ["_law_rows_here"]) (GLi : FnOk P w K mg base CX0 1 fLi fdLi ["_law_rows_here"] spLight)
    (HE : Df K mg "_law_heard" sHeard fHe fdHe ["_law_ask"]) (ER : Df K mg "_law_error" sEr fE fdE ["_law_heard_here"]) (GEr : FnOk P w K mg base CX0 1 fE fdE ["_law_heard_here"] spEr)
    (PR : Df K mg "_law_pieces_right" sPR fPR fdPR ["_law_pen_here", "_law_rows_here", "_law_due_here"]) (GPR : FnG P w K mg base 9 fPR fdPR ["_law_pen_here", "_law_rows_here", "_law_due_here"] (spPR K [(PT, qLaw), (PT2, qPR)]))
    (GI2 : FnR P w K mg base (L2.CX P w) 4 fI (fun vs H Q E => spInitR C vs H Q E ∨ spInitXR K C CN vs H Q E))
    (cR : ClX.CRead K C mc) (cM : ClX.CMet K C mc "made" pM fM) (GM2 : FnOk P w K mg base (L2.CX P w) 6 fM fdM ["cls", "rows"] (spMade2 K C CN)) (bM : Binds K fdM ["cls", "rows"] []) : FnG P w K mg base 10 f fd ["_law_script"] (spLaw K PT PT2) := by
  obtain ⟨hoc, hod, hkV, hdoc, hpm, han, hcdv, hct, hosl, rfl, hlk, hhcd⟩ := HE.F.ex
  refine okGc F hc scLaw (fun vs H Q E h => ?_) (fun A outer s H vs Q E hr gu h => ?_)
  · obtain ⟨a, ns, rfl, _⟩ := h
    rfl
  · obtain ⟨a, ns, rfl, hS, hl63, hPT, hPT2, kQ⟩ := h
    have hu := hu_of hr
    have hr1 : Room 1 _ := hr.mono (by decide)
    have hr2 : Room 2 _ := hr.mono (by decide)
    have hr3 : Room 3 _ := hr.mono (by decide)
    have hr4 : Room 4 _ := hr.mono (by decide)
    have hr5 : Room 5 _ := hr.mono (by decide)
    have hr8 : Room 8 _ := hr.mono (by decide)
    have hr9 : Room 9 _ := hr
    have hu1 : ∀ q ∈ [(PT, qLaw), (PT2, qPR)], q.1 = PT → q.2 = qLaw := fun q hq e => by
      simp only [List.mem_cons, List.not_mem_nil, or_false] at hq
      rcases hq with rfl | rfl
      · rfl
      · exact absurd e npt.symm
    refine ⟨_, (pss_cons (ps_set (i := 1) scLaw.nd rfl (Or.inl rfl) (pe_call GPn hr1 (by rfl) PN.m PN.F.kp PN.b .nil pass0 (pa_cons (pv 0) pa_nil)))
      (pss_cons (ps_for PassesOwn.never rfl (pi_range1 rfl T.range (pa_cons pe_int pa_nil)) (pg_name (i := 2) scLaw.nd rfl (Or.inl rfl))
      (pss_cons (ps_set (i := 3) scLaw.nd rfl (Or.inl rfl) (pe_call GP hr2 (by rfl) PK.m PK.F.kp PK.b .nil pass0 (pa_cons (pv 1) (pa_cons (pe_lst (pa_cons pe_int (pa_cons pe_int (pa_cons pe_int (pa_cons pe_int (pa_cons pe_int (pa_cons pe_int (pa_cons pe_int (pa_cons (pe_call GD hr1 (by rfl) D.m D.F.kp D.b .nil pass0 (pa_cons (pv 1) (pa_cons pe_int pa_nil))) pa_nil))))))))) pa_nil))))
        (pss_cons (ps_set (i := 4) scLaw.nd rfl (Or.inr rfl) (pe_call GR hr4 (by rfl) RS.m RS.F.kp RS.b .nil pass0 (pa_cons (pv 1) (pa_cons (pe_call GB hr4 (by rfl) BE.m BE.F.kp BE.b .nil pass0 (pa_cons (pv 1) (pa_cons (pv 3) pa_nil))) pa_nil))))
        (pss_cons (ps_imp (t' := tMore) (ps_if (pt_cmpR op_eq (pe_callB call_len_seq (by rfl) T.len PySem.boot_len (pa_cons (pv 4) pa_nil)) pe_int (nomark _))
        (pss_one (ps_set (i := 4) scLaw.nd rfl (Or.inr rfl) (pe_op op_cat (pv 4) (pe_slice sl_list (pe_lst (pa_cons (pe_tup (pa_cons pe_str (pa_cons pe_str pa_nil))) (pa_cons pe_non (pa_cons (pe_tup (pa_cons pe_str (pa_cons pe_str pa_nil))) pa_nil)))) po_none (po_some (pe_call GD hr1 (by rfl) D.m D.F.kp D.b .nil pass0 (pa_cons (pv 1) (pa_cons pe_int pa_nil))))))))
        pss_nil) (fun D σ H h => ?more))
        (pss_cons (ps_set (i := 4) scLaw.nd rfl (Or.inr rfl) (pe_call GSp hr5 (by rfl) SP.m SP.F.kp SP.b .nil pass0 (pa_cons (pv 1) (pa_cons (pv 4) pa_nil))))
        (pss_cons (ps_set (i := 5) scLaw.nd rfl (Or.inl rfl) (pe_imp (pe_call GDu hr3 (by rfl) DU.m DU.F.kp DU.b .nil pass0 (pa_cons (pv 4) pa_nil)) due_imp))
        (pss_cons (ps_set (i := 6) scLaw.nd rfl (Or.inl rfl) (pe_imp (pe_ifExp (pt_cmpR op_isN (pv 5) pe_non (nomark _)) (pe_callB call_len_seq (by rfl) T.len PySem.boot_len (pa_cons (pv 4) pa_nil)) (pe_ix ix_tup (pv 5) pe_int (fun _ _ => rfl))) first_imp))
        (pss_cons (ps_set (i := 4) scLaw.nd rfl (Or.inr rfl) (pe_op op_cat (pe_call GLi hr1 (by rfl) LI.m LI.F.kp LI.b .nil pass0 (pa_cons (pe_slice sl_list (pv 4) po_none (po_some (pv 6))) pa_nil)) (pe_slice sl_list (pv 4) (po_some (pv 6)) po_none)))
        (pss_cons (ps_if (pt_imp (pt_cmpR op_ne (pe_callB (call_reprU gu hr.units) (by rfl) T.repr (by decide +kernel) (pa_cons (pe_call GEr hr1 (by rfl) ER.m ER.F.kp ER.b .nil pass0 (pa_cons (pe_lamcall (T := [(PT, Str.ofString "law" ++ ".<locals>." ++ "<lambda>"), (PT2, Str.ofString "_law_pieces_right" ++ ".<locals>." ++ "<lambda>")]) (k := 6) (by rfl) HE.m HE.F.kp hlk hhcd HE.b scHeard rfl (Or.inl rfl) (heard_givesC T tVE hcl) TB1 rfl List.mem_cons_self hu1 hr8 (lamS_by (show lamSB (defScope sLaw) _ = true by decide +kernel)) rfl (fun _ _ _ _ _ => rfl)
          (fun A outer s H E f c' hr' => ClX.pe_cmeth (pe_glob (v := .ref C) (by rfl) Y.mgC rfl) cR cM (GM2.raw bM .nil) hr' (passes_call (takes_of rfl rfl rfl rfl) fun _ _ _ _ h => h) (pa_cons (pv 4) pa_nil))) pa_nil)) pa_nil)) (pe_callB (call_reprU gu hr.units) (by rfl) T.repr (by decide +kernel) (pa_cons (pv 5) pa_nil)) (nomark _)) told_imp)
        (pss_one (ps_ret pe_bl))
        pss_nil)
        (pss_cons (ps_set (i := 7) scLaw.nd rfl (Or.inl rfl) (pe_lamcall (T := [(PT, Str.ofString "law" ++ ".<locals>." ++ "<lambda>"), (PT2, Str.ofString "_law_pieces_right" ++ ".<locals>." ++ "<lambda>")]) (k := 6) (by rfl) HE.m HE.F.kp hlk hhcd HE.b scHeard rfl (Or.inl rfl) (heard_givesC T tVE hcl) TB1 rfl List.mem_cons_self hu1 hr8 (lamS_by (show lamSB (defScope sLaw) _ = true by decide +kernel)) rfl (fun _ _ _ _ _ => rfl)
          (fun A outer s H E f c' hr' => pe_makeR0 M GI2 (hr'.mono (by decide)) (by rfl) Y.mgC (passes_call (takes_of rfl rfl rfl rfl) fun _ _ _ _ h => h))))
        (pss_cons (ps_if (pt_cmpR op_eq (pe_callB call_len_seq (by rfl) T.len PySem.boot_len (pa_cons (pv 4) pa_nil)) pe_int (nomark _))
        (pss_one (ps_set (i := 7) scLaw.nd rfl (Or.inl rfl) (pe_lamcall (T := [(PT, Str.ofString "law" ++ ".<locals>." ++ "<lambda>"), (PT2, Str.ofString "_law_pieces_right" ++ ".<locals>." ++ "<lambda>")]) (k := 6) (by rfl) HE.m HE.F.kp hlk hhcd HE.b scHeard rfl (Or.inl rfl) (heard_givesC T tVE hcl) TB1 rfl List.mem_cons_self hu1 hr8 (lamS_by (show lamSB (defScope sLaw) _ = true by decide +kernel)) rfl (fun _ _ _ _ _ => rfl)
          (fun A outer s H E f c' hr' => StX.pe_makeR M GI2 (hr'.mono (by decide)) (by rfl) Y.mgC (passes_call (takes_of rfl rfl rfl rfl) fun _ _ _ _ h => h) (pa_cons (pe_ix (ix_listK (K' := K) rfl) (pv 4) pe_int (fun _ _ => rfl)) pa_nil)))))
        pss_nil)
        (pss_cons (ps_if (pt_cmpR op_eq (pe_callB call_len_seq (by rfl) T.len PySem.boot_len (pa_cons (pv 4) pa_nil)) pe_int (nomark _))
        (pss_one (ps_set (i := 7) scLaw.nd rfl (Or.inl rfl) (pe_lamcall (T := [(PT, Str.ofString "law" ++ ".<locals>." ++ "<lambda>"), (PT2, Str.ofString "_law_pieces_right" ++ ".<locals>." ++ "<lambda>")]) (k := 6) (by rfl) HE.m HE.F.kp hlk hhcd HE.b scHeard rfl (Or.inl rfl) (heard_givesC T tVE hcl) TB1 rfl List.mem_cons_self hu1 hr8 (lamS_by (show lamSB (defScope sLaw) _ = true by decide +kernel)) rfl (fun _ _ _ _ _ => rfl)
          (fun A outer s H E f c' hr' => StX.pe_makeR M GI2 (hr'.mono (by decide)) (by rfl) Y.mgC (passes_call (takes_of rfl rfl rfl rfl) fun _ _ _ _ h => h) (pa_cons (pe_ix (ix_listK (K' := K) rfl) (pv 4) pe_int (fun _ _ => rfl)) (pa_cons (pe_ix (ix_listK (K' := K) rfl) (pv 4) pe_int (fun _ _ => rfl)) pa_nil))))))
        pss_nil)
        (pss_cons (ps_if (PW.pt (pw_and (pt_cmpR op_lt (pe_callB call_len_seq (by rfl) T.len PySem.boot_len (pa_cons (pv 4) pa_nil)) pe_int (nomark _)) (pw_and1 (pt_imp (pt_cmpR op_ne (pe_callB (call_reprU gu hr.units) (by rfl) T.repr (by decide +kernel) (pa_cons (pe_call GEr hr1 (by rfl) ER.m ER.F.kp ER.b .nil pass0 (pa_cons (pv 7) pa_nil)) pa_nil)) (pe_callB (call_reprU gu hr.units) (by rfl) T.repr (by decide +kernel) (pa_cons (pv 5) pa_nil)) (nomark _)) told_imp))))
        (pss_one (ps_ret pe_bl))
        pss_nil)
        (pss_one (ps_if (pt_not (pt_val (pe_callG GPR hr9 gu (by rfl) PR.m PR.F.kp PR.b (pa_cons (pv 1) (pa_cons (pv 4) (pa_cons (pv 5) pa_nil))))))
        (pss_one (ps_ret pe_bl))
        pss_nil)))))))))))))))
      (pss_one (ps_ret pe_bl)))), ?_⟩
    case more =>
      obtain ⟨p, c, ns, n, l, vs, g1, g4, P0, hn, hl, nl, l30, rv, k⟩ := h
      refine ⟨_, g4, l, _, rfl, .inl (SqL.of hl), rfl, _, rfl, ite2 (fun z => ?_) (fun z => ?_)⟩
      · refine ⟨_, g4, (by show 2 ≤ sizeLine; decide), fun t1 ht1 => ?_⟩
        have s1 : Same H (upd H t1 (.tup [V.str "zzzzzzzz", V.str "error"])) := (Same.refl H).put ht1
        have e1 : (upd H t1 (.tup [V.str "zzzzzzzz", V.str "error"])) t1 = some (.tup [V.str "zzzzzzzz", V.str "error"]) := upd_same
        generalize upd H t1 (.tup [V.str "zzzzzzzz", V.str "error"]) = H1 at s1 e1 ⊢
        refine ⟨(by show 2 ≤ sizeLine; decide), fun t2 ht2 => ?_⟩
        have s2 : Same H1 (upd H1 t2 (.tup [V.str "zzzzzzzz", V.str "error"])) := (Same.refl H1).put ht2
        have e2 : (upd H1 t2 (.tup [V.str "zzzzzzzz", V.str "error"])) t2 = some (.tup [V.str "zzzzzzzz", V.str "error"]) := upd_same
        generalize upd H1 t2 (.tup [V.str "zzzzzzzz", V.str "error"]) = H2 at s2 e2 ⊢
        refine ⟨(by show 3 ≤ sizeLine; decide), fun q hq => ?_⟩
        have s3 : Same H2 (upd H2 q (.lst [.ref t1, .non, .ref t2])) := (Same.refl H2).put hq
        have e3 : (upd H2 q (.lst [.ref t1, .non, .ref t2])) q = some (.lst [.ref t1, .non, .ref t2]) := upd_same
        have s03 := (s1.trans s2).trans s3
        have nq : q ≠ p := (((P0.same s1).same s2).pne hq).symm
        generalize upd H2 q (.lst [.ref t1, .non, .ref t2]) = H3 at s3 e3 s03 ⊢
        have P3 := P0.same s03
        refine ⟨_, g1, p, c, ns, n, 4, rfl, P3, by omega, by decide, by decide, fun dv H4 d0 d1 k4 P4 => ⟨_, rfl, q, _, rfl, SqL.of (k4 _ _ e3 nq), fun q2 hq2 => ?_⟩⟩
        obtain ⟨dn, rfl⟩ : ∃ j : Nat, dv = (j : Int) := ⟨dv.toNat, (Int.toNat_of_nonneg d0).symm⟩
        rw [cutV_to]
        have s5 : Same H4 (upd H4 q2 (.lst (([.ref t1, .non, .ref t2] : List V).take dn))) := (Same.refl H4).put hq2
        have e5 : (upd H4 q2 (.lst (([.ref t1, .non, .ref t2] : List V).take dn))) q2 = some (.lst (([.ref t1, .non, .ref t2] : List V).take dn)) := upd_same
        generalize upd H4 q2 (.lst (([.ref t1, .non, .ref t2] : List V).take dn)) = H5 at s5 e5 ⊢
        have K05 : Keep p H H5 := (s03.keep.trans k4).trans s5.keep
        have P5 := P4.same s5
        have l3 : (([.ref t1, .non, .ref t2] : List V).take dn).length ≤ 3 := by rw [List.length_take]; exact Nat.min_le_right _ _
        refine ⟨l, q2, _, _, rfl, rfl, K05 _ _ hl nl, e5, by show _ ≤ 16777216; omega, fun l' hl' => ?_⟩
        have s6 : Same H5 (upd H5 l' (.lst (vs ++ ([.ref t1, .non, .ref t2] : List V).take dn))) := (Same.refl H5).put hl'
        refine k l' _ _ upd_same (P5.pne hl').symm (by rw [List.length_append]; omega) (fun v hv => ?_) (K05.trans s6.keep) (P5.same s6)
        have st : ∀ {t : Addr}, H3 t = some (.tup [V.str "zzzzzzzz", V.str "error"]) → RV H5 p 40 (.ref t) := fun {t} e => by
          have e' := s5 _ _ (k4 _ _ e (P3.tup_ne e))
          refine .tup e' (P5.tup_ne e') (by show 2 ≤ 40; decide) fun x hx => ?_
          simp only [List.mem_cons, List.not_mem_nil, or_false] at hx
          rcases hx with rfl | rfl
          · exact .str _ (by decide +kernel)
          · exact .str _ (by decide +kernel)
        rcases List.mem_append.mp hv with hv | hv
        · exact (rv v hv).keep (K05.trans s6.keep)
        · have hm := List.mem_of_mem_take hv
          simp only [List.mem_cons, List.not_mem_nil, or_false] at hm
          rcases hm with rfl | rfl | rfl
          · exact (st (s3 _ _ (s2 _ _ e1))).keep s6.keep
          · exact .no .non (by decide) (by intro z; cases z)
          · exact (st (s3 _ _ e2)).keep s6.keep
      · have := k l vs H hl nl (by omega) rv (Keep.refl _ _) (P0.mono (by omega))
        rwa [set_self g4] at this
    have tb0 : Tabs [(PT, qLaw), (PT2, qPR)] H := by
      intro q hq
      simp only [List.mem_cons, List.not_mem_nil, or_false] at hq
      rcases hq with rfl | rfl
      · exact TabS.nil hPT
      · exact TabS.nil hPT2
    refine ⟨_, rfl, a, ns, rfl, hS, hl63, fun p cc H1 P1 s1 => ?_⟩
    have tb1 := Tabs.same tb0 s1
    refine ⟨_, rfl, by decide, by decide, for_range (lo := 0) (n := 5) (fun i σ Hc => ∃ (v2 v3 v4 v5 v6 v7 : Option V), σ = [some (.ref a), some (.ref p), v2, v3, v4, v5, v6, v7] ∧ Pen Hc p cc ns (i * 1800) ∧ Tabs [(PT, qLaw), (PT2, qPR)] Hc) ?_ ?_ ?_⟩
    · exact ⟨_, _, _, _, _, _, rfl, P1.mono (by omega), tb1⟩
    · rintro i σ H2 hi ⟨v2, v3, v4, v5, v6, v7, rfl, P2, tb2⟩
      have hi5 : i ≤ 4 := by omega
      generalize hN : i * 1800 = N at P2
      have hN2 : N ≤ 7200 := by omega
      -- how many rows
      refine ⟨_, rfl, _, rfl, p, cc, ns, N, 31, rfl, P2, by omega, by decide, by decide, fun dv H3 d0 d1 k3 P3 => ?_⟩
      have tb3 := Tabs.kp tb2 P2 k3
      obtain ⟨dn, rfl⟩ : ∃ j : Nat, dv = (j : Int) := ⟨dv.toNat, (Int.toNat_of_nonneg d0).symm⟩
      refine ⟨(by show 8 ≤ sizeLine; decide), fun l0 h0 => ?_⟩
      refine ⟨p, cc, ns, N + 1, _, _, rfl, P3.new h0, by omega, .inl ⟨l0, rfl, (P3.pne h0).symm, upd_same⟩, by simp, (by show 8 ≤ 1000; decide), fun j v H4 hv k4 P4 => ?_⟩
      have kk4 : Keep p H3 H4 := ((Keep.refl p H3).new h0).trans k4
      have tb4 := Tabs.kp tb3 P3 kk4
      obtain ⟨m, rfl, hm⟩ : ∃ m : Nat, v = .int (m : Int) ∧ m ≤ 30 := by
        have hm6 := List.mem_of_getElem? hv
        simp only [List.mem_cons, List.not_mem_nil, or_false] at hm6
        rcases hm6 with rfl | rfl | rfl | rfl | rfl | rfl | rfl | rfl
        · exact ⟨0, rfl, by omega⟩
        · exact ⟨1, rfl, by omega⟩
        · exact ⟨2, rfl, by omega⟩
        · exact ⟨5, rfl, by omega⟩
        · exact ⟨29, rfl, by omega⟩
        · exact ⟨30, rfl, by omega⟩
        · exact ⟨30, rfl, by omega⟩
        · exact ⟨dn, rfl, by omega⟩
      clear hv
      -- the rows
      refine ⟨_, rfl, _, rfl, _, rfl, p, cc, ns, N + 1 + 1, m, rfl, P4, by omega, by omega, fun lw ws H5 hw hwl hlw k5 P5 => ?_⟩
      have tb5 := Tabs.kp tb4 P4 k5
      refine ⟨p, cc, lw, ns, N + 1 + 1 + 14, ws, rfl, P5, by omega, hlw, hw, by omega, fun lr ts0 rs0 H6 g0 en R0 hlr k6 P6 => ?_⟩
      have tb6 := Tabs.kp tb5 P5 k6
      have hrl : rs0.length = m := by rw [← hwl, ← en, List.length_map]
      have rv6 := row_rv P6 g0 (by omega) R0
      have tl0 : (ts0.map V.ref).length = m := by rw [List.length_map, R0.1, hrl]
      have nlr : lr ≠ p := P6.refs_ne hlr
      refine ⟨p, cc, ns, _, lr, _, rfl, rfl, P6, by omega, hlr, nlr, by omega, rv6, fun l7 vs7 H7 hl7 nl7 len7 rv7 k7 P7 => ?_⟩
      have tb7 := Tabs.kp tb6 P6 k7
      -- spoiled
      refine ⟨_, rfl, _, rfl, p, cc, l7, ns, _, 40, vs7, rfl, P7, by omega, hl7, nl7, by omega, rv7, by decide, fun l8 vs8 H8 hl8 nl8 len8 rv8 k8 P8 => ?_⟩
      have tb8 := Tabs.kp tb7 P7 k8
      obtain ⟨rs, o, S8⟩ := split_from (K := K) (m := 40 + 6) (by decide) vs8 [] [] good_nil (Nat.zero_le _) (fun r h => by cases h) (rowsAt_nil _) rv8
      rw [List.map_nil, List.nil_append] at S8
      have rsl := S8.l
      have rsn : ∀ r, o = some r → r ∈ reasons := fun r e => by rw [e] at S8; exact S8.rsn
      -- due
      refine ⟨l8, vs8, rs, o, rfl, hl8, by omega, S8, fun due H9 s9 due9 => ?_⟩
      have S9 := S8.same s9
      have P9 := P8.same s9
      have hl9 := s9 _ _ hl8
      have tb9 := Tabs.same tb8 s9
      -- first
      refine ⟨l8, vs8, rs, o, due, rfl, rfl, hl9, S9.len.2, due9, ?_⟩
      -- light
      obtain ⟨ts9, et9, R9⟩ := S9.to (Nat.le_refl rs.length)
      rw [List.take_length] at R9
      refine ⟨_, rfl, _, rfl, _, rfl, l8, _, rfl, SqL.of hl9, fun q hq => ?_⟩
      rw [cutV_to]
      have s10 : Same H9 (upd H9 q (.lst (vs8.take rs.length))) := (Same.refl H9).put hq
      have e10 : (upd H9 q (.lst (vs8.take rs.length))) q = some (.lst (vs8.take rs.length)) := upd_same
      generalize upd H9 q (.lst (vs8.take rs.length)) = H10 at s10 e10 ⊢
      refine ⟨q, ts9, rs, rfl, by rw [e10, et9], R9.mono fun b r e => s10 _ _ e, S9.g, by omega, fun l11 ts11 qs H11 gq lq nm R11 hl11 s11 => ?_⟩
      have s911 := s10.trans s11
      refine ⟨_, rfl, _, rfl, _, rfl, l8, _, rfl, SqL.of (s911 _ _ hl9), fun q2 hq2 => ?_⟩
      rw [cutV_from]
      have s12 : Same H11 (upd H11 q2 (.lst (vs8.drop rs.length))) := (Same.refl H11).put hq2
      have e12 : (upd H11 q2 (.lst (vs8.drop rs.length))) q2 = some (.lst (vs8.drop rs.length)) := upd_same
      generalize upd H11 q2 (.lst (vs8.drop rs.length)) = H12 at s12 e12 ⊢
      have lts : ts11.length = rs.length := by rw [R11.1, lq]
      have lvs : (ts11.map V.ref ++ vs8.drop rs.length).length ≤ 64 := by
        rw [List.length_append, List.length_map, List.length_drop, lts]
        omega
      refine ⟨l11, q2, _, _, rfl, rfl, s12 _ _ hl11, e12, by rw [List.length_append] at lvs; show _ ≤ 16777216; omega, fun l hlN => ?_⟩
      have s13 : Same H12 (upd H12 l (.lst (ts11.map V.ref ++ vs8.drop rs.length))) := (Same.refl H12).put hlN
      have hl13 : (upd H12 l (.lst (ts11.map V.ref ++ vs8.drop rs.length))) l = some (.lst (ts11.map V.ref ++ vs8.drop rs.length)) := upd_same
      have s913 := (s911.trans s12).trans s13
      have nl13 : l ≠ p := ((P9.same (s911.trans s12)).pne hlN).symm
      generalize upd H12 l (.lst (ts11.map V.ref ++ vs8.drop rs.length)) = H13 at s13 hl13 s913 ⊢
      have S13 := (S9.same s913).light gq lq nm (R11.mono fun b r e => s13 _ _ (s12 _ _ e))
      have P13 := P9.same s913
      have due13 := (due9.same s913).len lq
      have tb13 := Tabs.same tb9 s913
      have ql : qs.length ≤ 30 := S13.l
      generalize ts11.map V.ref ++ vs8.drop rs.length = vs at lvs hl13 S13
      clear S8 S9 R9 R11 due9 P9 P8 P7 P6 P5 P4 P3 P2 tb2 tb3 tb4 tb5 tb6 tb7 tb8 tb9 rv8 rv7 rv6
      -- made
      refine fun Q' kt => ⟨tb13, fun H14 x14 tb14 => ?_⟩
      have kn14 := KN.ext P13 x14
      have S14 := S13.kn kn14
      have P14 := P13.extN x14
      have due14 := due13.kn kn14
      have hl14 := x14 _ _ hl13 (by nofun)
      refine ⟨rfl, _, rfl, l, vs, qs, o, rfl, hl14, lvs, S14, ans_heard hCls (fun v H' h => h) fun hv Hk sk hh => kt hv Hk due rfl ⟨qs, o, hh, due14.same sk, ql, rsn⟩ (iteF ?_)⟩
      have S15 := S14.same sk
      have P15 := P14.same sk
      have due15 := due14.same sk
      have hl15 := sk _ _ hl14
      have tb15 := Tabs.same tb14 sk
      clear S14 S13 P14 P13 due14 due13 hl14 hl13 tb14 tb13 hh x14 sk kt
      -- of no rows
      refine ⟨tb15, fun H16 x16 tb16 => ?_⟩
      have kn16 := KN.ext P15 x16
      have S16 := S15.kn kn16
      have P16 := P15.extN x16
      have due16 := due15.kn kn16
      have hl16 := x16 _ _ hl15 (by nofun)
      refine hear_init (K := K) (CN := CN) (xs := []) hCls split_nil (by decide) (fun x v H2 h => h) fun hv0 Hk0 sk0 hh0 => ?_
      have S17 := S16.same sk0
      have P17 := P16.same sk0
      have due17 := due16.same sk0
      have hl17 := sk0 _ _ hl16
      have tb17 := Tabs.same tb16 sk0
      have no : ∀ {k : Int} {n : Nat}, ¬ (decide (V.int (n : Int) = V.int k) = true) → (n : Int) ≠ k := fun h e => h (by rw [e]; exact decide_eq_true rfl)
      refine ⟨_, rfl, l, _, rfl, .inl (SqL.of hl17), rfl, _, rfl, ite2 (fun z1 => ?_) (fun z1 => ?_)⟩
      · have z1 : (vs.length : Int) = 1 := V.int.inj (of_decide_eq_true z1)
        refine ⟨tb17, fun H18 x18 tb18 => ?_⟩
        have kn18 := KN.ext P17 x18
        have S18 := S17.kn kn18
        have P18 := P17.extN x18
        have due18 := due17.kn kn18
        have hl18 := x18 _ _ hl17 (by nofun)
        obtain ⟨v0, ev⟩ : ∃ v0, vs = [v0] := List.length_eq_one_iff.mp (by omega)
        have at0 : atI vs (0 : Int) = some v0 := by rw [ev]; rfl
        refine ⟨_, rfl, l, _, _, _, rfl, rfl, SqL.of hl18, at0, hear_init (K := K) (CN := CN) (xs := [v0]) hCls (ev ▸ S18) (by simp) (fun x v H2 h => h) fun hv1 Hk1 sk1 hh1 => ?_⟩
        have S19 := S18.same sk1
        have P19 := P18.same sk1
        have due19 := due18.same sk1
        have hl19 := sk1 _ _ hl18
        have tb19 := Tabs.same tb18 sk1
        refine ⟨_, rfl, l, _, rfl, .inl (SqL.of hl19), rfl, _, rfl, ite2 (fun z2 => absurd (V.int.inj (of_decide_eq_true z2)) (by omega)) (fun _ => ?_)⟩
        refine ⟨_, rfl, l, _, rfl, .inl (SqL.of hl19), _, _, rfl, rfl, _, rfl, ite2 (fun _ => ?_) (fun z3 => absurd (decide_eq_true (by omega)) z3)⟩
        refine fun Q' kt => ⟨_, rfl, kt _ _ due rfl ⟨qs, o, hh1, due19, ql, rsn⟩ (iteF ?_)⟩
        exact ⟨_, rfl, _, rfl, _, rfl, p, cc, l, ns, _, vs, qs, o, due, rfl, P19, by omega, hl19, nl13, lvs, S19, due19, tb19, fun H' P' tb' => ⟨_, rfl, iteF ⟨_, _, _, _, _, _, rfl, P'.mono (by omega), tb'⟩⟩⟩
      have z1 := no z1
      refine ⟨_, rfl, l, _, rfl, .inl (SqL.of hl17), rfl, _, rfl, ite2 (fun z2 => ?_) (fun z2 => ?_)⟩
      · have z2 : (vs.length : Int) = 2 := V.int.inj (of_decide_eq_true z2)
        refine ⟨tb17, fun H18 x18 tb18 => ?_⟩
        have kn18 := KN.ext P17 x18
        have S18 := S17.kn kn18
        have P18 := P17.extN x18
        have due18 := due17.kn kn18
        have hl18 := x18 _ _ hl17 (by nofun)
        obtain ⟨v0, v1, ev⟩ : ∃ v0 v1, vs = [v0, v1] := by
          match hh : vs, z2 with
          | [x, y], _ => exact ⟨x, y, rfl⟩
          | [], z => simp at z
          | [_], z => simp at z
          | _ :: _ :: _ :: _, z => simp at z; omega
        have at0 : atI vs (0 : Int) = some v0 := by rw [ev]; rfl
        have at1 : atI vs (1 : Int) = some v1 := by rw [ev]; rfl
        refine ⟨_, rfl, l, _, _, _, rfl, rfl, SqL.of hl18, at0, _, rfl, l, _, _, _, rfl, rfl, SqL.of hl18, at1, hear_init (K := K) (CN := CN) (xs := [v0, v1]) hCls (ev ▸ S18) (by simp) (fun x v H2 h => h) fun hv1 Hk1 sk1 hh1 => ?_⟩
        have S19 := S18.same sk1
        have P19 := P18.same sk1
        have due19 := due18.same sk1
        have hl19 := sk1 _ _ hl18
        have tb19 := Tabs.same tb18 sk1
        refine ⟨_, rfl, l, _, rfl, .inl (SqL.of hl19), _, _, rfl, rfl, _, rfl, ite2 (fun _ => ?_) (fun z3 => absurd (decide_eq_true (by omega)) z3)⟩
        refine fun Q' kt => ⟨_, rfl, kt _ _ due rfl ⟨qs, o, hh1, due19, ql, rsn⟩ (iteF ?_)⟩
        exact ⟨_, rfl, _, rfl, _, rfl, p, cc, l, ns, _, vs, qs, o, due, rfl, P19, by omega, hl19, nl13, lvs, S19, due19, tb19, fun H' P' tb' => ⟨_, rfl, iteF ⟨_, _, _, _, _, _, rfl, P'.mono (by omega), tb'⟩⟩⟩
      have z2 := no z2
      refine ⟨_, rfl, l, _, rfl, .inl (SqL.of hl17), _, _, rfl, rfl, _, rfl, ite2 (fun z3 => ?_) (fun z3 => ?_)⟩
      · have z3 : (vs.length : Int) < 3 := of_decide_eq_true z3
        have v0 : vs.length = 0 := by omega
        have q0 : qs.length = 0 := by have := S17.len.1; omega
        have eo : o = none := by
          obtain ⟨ts0, _, ⟨e, _⟩ | ⟨r, v, more, _, e, _⟩⟩ := S17.ex
          · exact e
          · rw [e, List.length_append, List.length_cons] at v0
            omega
        refine fun Q' kt => ⟨_, rfl, kt _ _ due rfl ⟨qs, o, by rw [eo, q0]; exact hh0, due17, ql, rsn⟩ (iteF ?_)⟩
        exact ⟨_, rfl, _, rfl, _, rfl, p, cc, l, ns, _, vs, qs, o, due, rfl, P17, by omega, hl17, nl13, lvs, S17, due17, tb17, fun H' P' tb' => ⟨_, rfl, iteF ⟨_, _, _, _, _, _, rfl, P'.mono (by omega), tb'⟩⟩⟩
      · refine iteF ?_
        exact ⟨_, rfl, _, rfl, _, rfl, p, cc, l, ns, _, vs, qs, o, due, rfl, P17, by omega, hl17, nl13, lvs, S17, due17, tb17, fun H' P' tb' => ⟨_, rfl, iteF ⟨_, _, _, _, _, _, rfl, P'.mono (by omega), tb'⟩⟩⟩
    · rintro σ Hc ⟨v2, v3, v4, v5, v6, v7, rfl, Pc, tbc⟩
      exact kQ Hc
end
end K2
end
section
set_option Elab.async false
set_option linter.all false
set_option maxRecDepth 100000
set_option maxHeartbeats 2000000
namespace K2
open PySem PySem.Spec PyProof.Rows L2 LamX
/-- law_call with tables: cs, the code objects and their tables -/
theorem law_callTG {P : Program} {w : World} {K : PySem.W.Frag} {mg mb : Str → Option Value} {k : Nat} {fa a : Addr} {cs : List (Addr × Addr)} {fd : FuncData} {x : Str} {sp : Sp} {s₁ : Shared} {vs : List Value} {ns : List Int}
    (KX : K.In s₁.heap) (hns : s₁.heap.Ns mainGlobals mg) (hb : s₁.heap.Ns builtinsNs mb) (hbb : ∀ x : Str, x ≠ "__name__" → mb x = bootBuiltins x) (hlim : s₁.heap.NoLimit) (hg : s₁.gens = #[])
    (hT : ∀ p ∈ cs, s₁.heap.get? p.2 = some { cls := .none, data := .fields #[] }) (nT : ∀ p ∈ cs, K.lookup p.2 = none) (C : ∀ p ∈ cs, PySem.W.CodeHd s₁.heap p.1 p.2)
    (hbm : ∃ (bm : Addr) (ob : Obj), mg "__builtins__" = some (.ref bm) ∧ bm ≠ builtinsNs ∧ s₁.heap.get? bm = some ob ∧ ob.cls = .type "module" ∧ ob.dict = some builtinsNs ∧ ob.data = .plain)
    (ha : s₁.heap.get? a = some { cls := .type "list", data := .seq vs.toArray }) (hi : IntsAre vs ns) (hl : ns.length ≤ sizeLine) (hr : Room k callerA)
    (F : ∀ base : Heap, K.In base → base.Ns mainGlobals mg → (∀ p ∈ cs, TabB base mg p.1 p.2) → FnG P w K mg base k fa fd [x] sp) (hbind : ∀ (s : Shared) (u : Value), BindsTo s fd ⟨[u], []⟩ [(x, u)])
    (hsp : ∀ H : Hp, (∀ p ∈ cs, H p.2 = some (.tbl #[])) → SqL K H a (ns.map V.int) → sp [.ref a] H (fun v _ => v = .bl true) fun _ _ _ => False) :
    codeAny (model P w) callerA (.call (.ref fa) ⟨[.ref a], []⟩) (fun r s' => r = .ok (.ret (.bool true)) ∧ OldK s₁.heap s'.heap ∧ s'.os = s₁.os ∧ AllBare s'.gens) s₁ := by
  have rv := vals_ints hi
  have lenV := hi.length
  have isT : ∀ b : Addr, b ∈ cs.map (·.2) → s₁.heap.get? b = some { cls := .none, data := .fields #[] } := fun b hb => by
    obtain ⟨p, hp, e⟩ := List.mem_map.mp hb
    rw [← e]
    exact hT p hp
  have aT : a ∉ cs.map (·.2) := fun z => by
    have q := isT a z
    rw [ha] at q
    have z' : Data.seq vs.toArray _ = Data.fields #[] := congrArg Obj.data (Option.some.inj q)
    cases z'
  have memT : ∀ p ∈ cs, p.2 ∈ cs.map (·.2) := fun p hp => List.mem_map.mpr ⟨p, hp, rfl⟩
  -- from an abstract heap in which nothing but the script and the tables may be tracked
  have core : ∀ H : Hp, (∀ p ∈ cs, H p.2 = some (.tbl #[])) → (∀ b, H b = none ∨ b ∈ cs.map (·.2) ∨ ∃ o xs, H b = some (.frz o (.lst xs))) → SqL K H a (ns.map V.int) → HOk P w H s₁.heap → (∀ b, H b ≠ none → b = a ∨ b ∈ cs.map (·.2)) → (H a ≠ none → K.lookup a = none) →
      codeAny (model P w) callerA (.call (.ref fa) ⟨[.ref a], []⟩) (fun r s' => r = .ok (.ret (.bool true)) ∧ OldK s₁.heap s'.heap ∧ s'.os = s₁.os ∧ AllBare s'.gens) s₁ := by
    intro H hH hO hS hok hA hK
    have base_of : ∀ {b : Addr} {o : Obj}, s₁.heap.get? b = some o → H b = none → (hidT s₁.heap H).get? b = some o := fun e n => hidT_get e n
    have noD : ∀ {b : Addr} {o : Obj}, s₁.heap.get? b = some o → (∀ vs n, o.data ≠ .seq vs n) → o.data ≠ .fields #[] → H b = none := fun {b o} e h1 h2 => by
      cases q : H b with
      | none => rfl
      | some u =>
        rcases hA b (by rw [q]; simp) with e' | e'
        · rw [e', ha] at e
          cases e
          exact (h1 _ _ rfl).elim
        · rw [isT b e'] at e
          cases e
          exact (h2 rfl).elim
    have noA : ∀ {b : Addr} {o : Obj} {es : Array DictEntry} {ep : Nat}, s₁.heap.get? b = some o → o.data = .dict es ep → H b = none := fun {b o es ep} e d => by
      refine noD e (fun vs n z => ?_) fun z => ?_
      · rw [d] at z
        cases z
      · rw [d] at z
        cases z
    have nsK : ∀ {b : Addr} {m : Str → Option Value}, s₁.heap.Ns b m → (hidT s₁.heap H).Ns b m := fun {b m} ⟨o, es, ep, e, d, r⟩ => ⟨o, es, ep, base_of e (noA e d), d, r⟩
    have hKb : K.In (hidT s₁.heap H) := fun b o e => base_of (KX b o e) (by
      cases q : H b with
      | none => rfl
      | some u =>
        rcases hA b (by rw [q]; simp) with e' | e'
        · rw [e'] at e q
          rw [hK (by rw [q]; simp)] at e
          cases e
        · obtain ⟨p, hp, ep⟩ := List.mem_map.mp e'
          rw [← ep, nT p hp] at e
          cases e)
    have hM : L2.Mod K mg (hidT s₁.heap H) := ⟨hKb, nsK hns, ⟨mb, nsK hb, hbb⟩, let ⟨mc, h1, h2⟩ := hlim; ⟨mc, nsK h1, h2⟩⟩
    have TB : ∀ p ∈ cs, TabB (hidT s₁.heap H) mg p.1 p.2 := fun p hp => by
      have hTp := hT p hp
      refine ⟨?_, ?_, fun z => ?_⟩
      · obtain ⟨o, us, file, tf, flags, tg, inF, text, tt, e1, r1, r2, r3, r4, r5, r6, r7, r8, hne⟩ := C p hp
        refine ⟨o, us, file, tf, flags, tg, inF, text, tt, base_of e1 (noD e1 (fun vs n z => ?_) fun z => ?_), r1, r2, r3, r4, r5, r6, r7, r8, hne⟩
        · rw [r2] at z
          cases z
        · rw [r2] at z
          cases z
          simp at r3
      · obtain ⟨bm, ob, b1, b2, b3, b4, b5, b6⟩ := hbm
        have nG : bm ≠ mainGlobals := fun q => by
          obtain ⟨o, es, ep, e, hd, _⟩ := hns
          rw [q, e] at b3
          cases b3
          rw [hd] at b6
          cases b6
        have nP : bm ≠ p.2 := fun q => by
          rw [q, hTp] at b3
          cases b3
          cases b6
        refine ⟨bm, ob, b1, b2, nG, nP, base_of b3 (noD b3 (fun vs n z => ?_) fun z => ?_), b4, b5, b6⟩
        · rw [b6] at z
          cases z
        · rw [b6] at z
          cases z
      · obtain ⟨o, es, ep, e, hd, _⟩ := hns
        rw [z, hTp] at e
        cases e
        cases hd
    have e0 : Env0 P w K mg (hidT s₁.heap H) callerA [] s₁ H := ⟨rfl, hM, fun b o e => of_hidT e, Nat.le_of_eq (hidT_size _ _), trivial, fun b hb => absurd (show b ∈ ([] : List Addr) from hb) (by simp), hok, .of_eq hg⟩
    refine codeAny_mono ((F _ hKb (nsK hns) TB).run callerA [] s₁ H ⟨[.ref a], []⟩ [.ref a] [.ref a] _ _ hr rfl e0 (hbind s₁ (.ref a)) (.cons rfl .nil) (hsp H hH hS)) fun r s' h => ?_
    cases r with
    | error e => exact h.elim
    | ok fl =>
      cases fl with
      | next => exact False.elim h
      | brk => exact False.elim h
      | cont => exact False.elim h
      | ret u =>
        obtain ⟨v, H', os, bare, un, hok', r', q⟩ := h
        have q' : v = .bl true := q
        subst q'
        obtain rfl : u = Value.bool true := r'
        have key : ∀ b o, b ∉ cs.map (·.2) → s₁.heap.get? b = some o → s'.heap.get? b = some o := fun b o nb e => by
          cases q : H b with
          | none => exact un.keep b o e q (by intro z; exact absurd (show b ∈ ([] : List Addr) from z) (by simp)) (by simp)
          | some u =>
            rcases hO b with z | z | ⟨ob, xs, z⟩
            · rw [q] at z; cases z
            · exact absurd z nb
            · have z2 := un.frzs b ob _ z
              obtain ⟨e1, _⟩ := hok b _ z
              obtain ⟨e2, _⟩ := hok' b _ z2
              rw [e] at e1; cases e1
              exact e2
        have grown : ∀ p ∈ cs, ∃ more : Array Value, s'.heap.get? p.2 = some { cls := .none, data := .fields more } := fun p hp => by
          obtain ⟨more, z⟩ := un.tbls p.2 #[] (hH p hp)
          exact ⟨_, hok' p.2 _ z⟩
        refine ⟨rfl, ⟨fun b o e => ?_, fun b o e => ?_⟩, os, bare⟩
        · by_cases hb : b ∈ cs.map (·.2)
          · obtain ⟨p, hp, ep⟩ := List.mem_map.mp hb
            obtain ⟨more, hm⟩ := grown p hp
            rw [← ep] at e ⊢
            rw [hT p hp] at e
            cases e
            exact .inr (.inl ⟨((C p hp).tab (hT p hp)).isCodeTable, rfl, #[], more, rfl, by rw [Array.empty_append]; exact hm⟩)
          · exact .inl (key b o hb e)
        · by_cases hb : b ∈ cs.map (·.2)
          · obtain ⟨p, hp, ep⟩ := List.mem_map.mp hb
            obtain ⟨more, hm⟩ := grown p hp
            rw [← ep]
            exact ⟨_, hm⟩
          · exact ⟨o, key b o hb e⟩
  cases hk : K.lookup a with
  | some o =>
    have e := KX a o hk
    rw [ha] at e
    cases e
    refine core (fun b => if b ∈ cs.map (·.2) then some (.tbl #[]) else none) (fun p hp => if_pos (memT p hp)) (fun b => ?_) (.inr ⟨_, vs.toArray, _, hk, rfl, rfl, rfl, by rw [List.size_toArray, lenV]; exact hl, by simpa using rv⟩) (fun b u z => ?_) (fun b z => ?_) fun z => absurd (show (if a ∈ cs.map (·.2) then some (HO.tbl #[]) else none) = none from if_neg aT) z
    · by_cases hb : b ∈ cs.map (·.2)
      · exact .inr (.inl hb)
      · exact .inl (if_neg hb)
    · by_cases hb : b ∈ cs.map (·.2)
      · have z' := (if_pos hb).symm.trans z
        cases z'
        exact isT b hb
      · have z' := (if_neg hb).symm.trans z
        cases z'
    · by_cases hb : b ∈ cs.map (·.2)
      · exact .inr hb
      · exact absurd (if_neg hb) z
  | none =>
    refine core (fun b => if b = a then some (.frz { cls := .type "list", data := .seq vs.toArray } (.lst (ns.map V.int))) else if b ∈ cs.map (·.2) then some (.tbl #[]) else none) (fun p hp => (if_neg (show ¬ p.2 = a from fun z => aT (by rw [← z]; exact memT p hp))).trans (if_pos (memT p hp))) (fun b => ?_)
      (.inl (.inr ⟨{ cls := .type "list", data := .seq vs.toArray }, if_pos rfl⟩)) (fun b u z => ?_) (fun b z => ?_) fun _ => hk
    · by_cases hb : b = a
      · exact .inr (.inr ⟨_, _, if_pos hb⟩)
      · by_cases hb2 : b ∈ cs.map (·.2)
        · exact .inr (.inl hb2)
        · exact .inl ((if_neg hb).trans (if_neg hb2))
    · by_cases hb : b = a
      · have z' := (if_pos hb).symm.trans z
        cases z'
        rw [hb]
        exact ⟨ha, by rw [List.length_map]; exact hl, vs, _, rv, ha⟩
      · have z1 := (if_neg hb).symm.trans z
        by_cases hb2 : b ∈ cs.map (·.2)
        · have z' := (if_pos hb2).symm.trans z1
          cases z'
          exact isT b hb2
        · have z' := (if_neg hb2).symm.trans z1
          cases z'
    · by_cases hb : b = a
      · exact .inl hb
      · by_cases hb2 : b ∈ cs.map (·.2)
        · exact .inr hb2
        · exact absurd ((if_neg hb).trans (if_neg hb2)) z

theorem walk_ofTG {l : PySem.W.OpenLaw} {n k : Nat} {q : Program} {loose : List Str} {XP : (Str → Option Value) → Heap → Prop} {YP : World → Heap → Prop} {d : DefRec} {K : Params → PySem.W.Frag} {x : Str}
    (hn : l.most = some n) (hn2 : n ≤ sizeLine) (hdf : d.params.defaults = []) (hr : Room k callerA) (hY : ∀ (w : World) (h : Heap), YP w h → (K w.params).In h)
    (F : ∀ (w : World) (mg : Str → Option Value) (fa : Addr) (h : Heap), YP w h → (K w.params).In h → h.Ns mainGlobals mg → mg d.name = some (.ref fa) →
      ∃ (fd : FuncData) (cs : List (Addr × Addr)) (sp : Sp), (∀ p ∈ cs, h.get? p.2 = some { cls := .none, data := .fields #[] }) ∧ (∀ p ∈ cs, (K w.params).lookup p.2 = none) ∧ (∀ p ∈ cs, PySem.W.CodeHd h p.1 p.2) ∧ (∀ (s : Shared) (u : Value), BindsTo s fd ⟨[u], []⟩ [(x, u)]) ∧
        (∀ (H : Hp) (a : Addr) (ns : List Int), ns.length ≤ n → (∀ p ∈ cs, H p.2 = some (.tbl #[])) → SqL (K w.params) H a (ns.map V.int) → sp [.ref a] H (fun v _ => v = .bl true) fun _ _ _ => False) ∧
        ∀ base : Heap, (K w.params).In base → base.Ns mainGlobals mg → (∀ p ∈ cs, TabB base mg p.1 p.2) → FnG l.prog w (K w.params) mg base k fa fd [x] sp) :
    PySem.W.WalkO q loose XP YP l.row.toRowW d [] (fun f vs => PySem.call f vs) := by
  refine Att.attach_call hn hdf fun w s₀ s₁ mg mb fa o pm cd doc a vs ns G Y ho hd hcd hmg hobj hints hlen hg => ?_
  have KX := hY w _ Y
  obtain ⟨fd, cs, sp, hT, nT, C, hb, hsp, hF⟩ := F w mg fa _ Y KX G.T.g hmg
  exact law_callTG KX G.T.g G.T.b G.T.builtins G.T.nolimit hg hT nT C G.T.bmain hobj hints (Nat.le_trans hlen hn2) hr hF hb (fun H hH hS => hsp H a ns hlen hH hS)
end K2
end
section
set_option Elab.async false
set_option maxRecDepth 100000
set_option linter.all false
namespace K2
open PySem L2 LamX
theorem kit_ref {K : PySem.W.Frag} {D C : Addr} {b : Bool} (ne : (D == C) = false) (c : PySem.W.isClsIn K C = true) (t : PySem.W.typeIn K (.ref C) = some (.type "type")) (s : PySem.W.subIn K (.ref D) (.ref C) = some b) : PySem.W.kitOne K (.ref D) (.ref C) = some b := by
  have q : PySem.W.kitCls K (.ref D) (.ref C) = some b := by
    show (if ((PySem.W.clsIn K C).isSome && PySem.W.typeIn K (.ref C) == some (.type "type")) = true then PySem.W.subIn K (.ref D) (.ref C) else none) = some b
    have c' : (PySem.W.clsIn K C).isSome = true := c
    rw [c', t, if_pos (by simp)]
    exact s
  unfold PySem.W.kitOne
  rw [if_neg ?_]
  · exact q
  · intro z
    have e : D = C := Value.ref.inj (beq_iff_eq.mp z)
    rw [e] at ne
    simp at ne
theorem kit_same {K : PySem.W.Frag} {D : Addr} : PySem.W.kitOne K (.ref D) (.ref D) = some true := by
  unfold PySem.W.kitOne
  rw [if_pos (by simp)]
theorem kit_ve {K : PySem.W.Frag} {D : Addr} (s : PySem.W.subIn K (.ref D) (.type "ValueError") = some true) : PySem.W.kitOne K (.ref D) (.type "ValueError") = some true := by
  have q : PySem.W.kitCls K (.ref D) (.type "ValueError") = some true := by
    show (if PySem.W.kitMeta "ValueError" = true then PySem.W.subIn K (.ref D) (.type "ValueError") else none) = some true
    rw [if_pos (by decide +kernel)]
    exact s
  unfold PySem.W.kitOne
  rw [if_neg (by simp)]
  exact q
theorem any_no {K : PySem.W.Frag} {t c : Value} {r : List Value} (h : PySem.W.kitOne K t c = some false) (k : PySem.W.kitAny K t r = some false) : PySem.W.kitAny K t (c :: r) = some false := by
  show (match PySem.W.kitOne K t c with | some true => some true | some false => PySem.W.kitAny K t r | none => none) = some false
  rw [h]
  exact k
def chkS : List Str → List Value → Bool
  | [], [] => true
  | x :: xs, .str y _ :: us => decide (x = y) && chkS xs us
  | _, _ => false
theorem chk_vals : ∀ {xs : List Str} {us : List Value}, chkS xs us = true → Vals (xs.map V.str) us
  | [], [], _ => .nil
  | x :: xs, .str y t :: us, h => by
    have h2 := Bool.and_eq_true_iff.mp (show (decide (x = y) && chkS xs us) = true from h)
    have e := of_decide_eq_true h2.1
    subst e
    exact .cons ⟨t, rfl⟩ (chk_vals h2.2)

theorem all_mk {l : PySem.W.OpenLaw} {w : World} {K : PySem.W.Frag} {h : Heap} {mg : Str → Option Value} {fa C pM aR cC cP cC2 cP2 cE0 cE1 cE2 cE3 cE4 cE5 cE6 cE7 cE8 cE9 cE10 cE11 cE12 : Addr} {rest : List Value} {t1 t2 : Tok} {ddR : Option Addr} {itsR : Array Value} {nR2 : Nat} {slR : Array (Option Value)} {nm_z q_z N_z bs_z bm_z sn_z sub_z ab_z col_z dd_z k0_z k1_z k2_z k3_z k5_z} (X : K.In h) (G : h.Ns mainGlobals mg) (hfa : mg "law" = some (.ref fa))
    {fIW fAW fAD fFA fLI fPN fD fPK fBA fWO fBE fMI fRO fRS fLT fHE fLQ fOD fER fDU fBT fSP fPR fLW fIN fMA fLN fWR fNI : Addr} {odIW anIW odAW anAW odAD anAD odFA anFA odLI anLI odPN anPN odD anD odPK anPK odBA anBA odWO anWO odBE anBE odMI anMI odRO anRO odRS anRS odLT anLT odHE anHE odLQ anLQ odOD anOD odER anER odDU anDU odBT anBT odSP anSP odPR anPR odLW anLW odIN anIN odMA anMA odLN anLN odWR anWR odNI anNI : Option Addr} {slIW slAW slAD slFA slLI slPN slD slPK slBA slWO slBE slMI slRO slRS slLT slHE slLQ slOD slER slDU slBT slSP slPR slLW slIN slMA slLN slWR slNI : Array (Option Value)} {ocIW kVIW dcIW pmIW cdIW ctIW ocAW kVAW dcAW pmAW cdAW ctAW ocAD kVAD dcAD pmAD cdAD ctAD ocFA kVFA dcFA pmFA cdFA ctFA ocLI kVLI dcLI pmLI cdLI ctLI ocPN kVPN dcPN pmPN cdPN ctPN ocD kVD dcD pmD cdD ctD ocPK kVPK dcPK pmPK cdPK ctPK ocBA kVBA dcBA pmBA cdBA ctBA ocWO kVWO dcWO pmWO cdWO ctWO ocBE kVBE dcBE pmBE cdBE ctBE ocMI kVMI dcMI pmMI cdMI ctMI ocRO kVRO dcRO pmRO cdRO ctRO ocRS kVRS dcRS pmRS cdRS ctRS ocLT kVLT dcLT pmLT cdLT ctLT ocHE kVHE dcHE pmHE cdHE ctHE ocLQ kVLQ dcLQ pmLQ cdLQ ctLQ ocOD kVOD dcOD pmOD cdOD ctOD ocER kVER dcER pmER cdER ctER ocDU kVDU dcDU pmDU cdDU ctDU ocBT kVBT dcBT pmBT cdBT ctBT ocSP kVSP dcSP pmSP cdSP ctSP ocPR kVPR dcPR pmPR ctPR ocLW kVLW dcLW pmLW ctLW ocIN kVIN dcIN pmIN cdIN ctIN ocMA kVMA dcMA pmMA cdMA ctMA ocLN kVLN dcLN pmLN cdLN ctLN ocWR kVWR dcWR pmWR cdWR ctWR ocNI kVNI dcNI pmNI cdNI ctNI : Value}
    (aIW : PySem.W.nsIn K mainGlobals "is_word" = some (some (.ref fIW)))
    (aAW : PySem.W.nsIn K mainGlobals "are_words" = some (some (.ref fAW)))
    (aAD : PySem.W.nsIn K mainGlobals "are_different" = some (some (.ref fAD)))
    (aFA : PySem.W.nsIn K mainGlobals "_fault" = some (some (.ref fFA)))
    (aLI : PySem.W.nsIn K mainGlobals "_line" = some (some (.ref fLI)))
    (aPN : PySem.W.nsIn K mainGlobals "_law_pen" = some (some (.ref fPN)))
    (aD : PySem.W.nsIn K mainGlobals "_law_draw" = some (some (.ref fD)))
    (aPK : PySem.W.nsIn K mainGlobals "_law_pick" = some (some (.ref fPK)))
    (aBA : PySem.W.nsIn K mainGlobals "_law_barred" = some (some (.ref fBA)))
    (aWO : PySem.W.nsIn K mainGlobals "_law_words" = some (some (.ref fWO)))
    (aBE : PySem.W.nsIn K mainGlobals "_law_begun" = some (some (.ref fBE)))
    (aMI : PySem.W.nsIn K mainGlobals "_law_mixed" = some (some (.ref fMI)))
    (aRO : PySem.W.nsIn K mainGlobals "_law_row" = some (some (.ref fRO)))
    (aRS : PySem.W.nsIn K mainGlobals "_law_rows" = some (some (.ref fRS)))
    (aLT : PySem.W.nsIn K mainGlobals "_law_light" = some (some (.ref fLT)))
    (aHE : PySem.W.nsIn K mainGlobals "_law_heard" = some (some (.ref fHE)))
    (aLQ : PySem.W.nsIn K mainGlobals "_law_is_word" = some (some (.ref fLQ)))
    (aOD : PySem.W.nsIn K mainGlobals "_law_odd" = some (some (.ref fOD)))
    (aER : PySem.W.nsIn K mainGlobals "_law_error" = some (some (.ref fER)))
    (aDU : PySem.W.nsIn K mainGlobals "_law_due" = some (some (.ref fDU)))
    (aBT : PySem.W.nsIn K mainGlobals "_law_bent" = some (some (.ref fBT)))
    (aSP : PySem.W.nsIn K mainGlobals "_law_spoiled" = some (some (.ref fSP)))
    (aPR : PySem.W.nsIn K mainGlobals "_law_pieces_right" = some (some (.ref fPR)))
    (aLW : PySem.W.nsIn K mainGlobals "law" = some (some (.ref fLW)))
    (lIW : K.lookup fIW = some ⟨ocIW, odIW, .func (PySem.W.fnOf "is_word" "is_word" (defArgs sIsW) (defBody sIsW) (defScope sIsW) .none kVIW dcIW pmIW anIW cdIW ctIW), slIW⟩) (cIW : PySem.W.codeIn K cdIW "is_word" = true) (kIW : PySem.W.keepIn K (.ref fIW) = true)
    (lAW : K.lookup fAW = some ⟨ocAW, odAW, .func (PySem.W.fnOf "are_words" "are_words" (defArgs sAreW) (defBody sAreW) (defScope sAreW) .none kVAW dcAW pmAW anAW cdAW ctAW), slAW⟩) (cAW : PySem.W.codeIn K cdAW "are_words" = true) (kAW : PySem.W.keepIn K (.ref fAW) = true)
    (lAD : K.lookup fAD = some ⟨ocAD, odAD, .func (PySem.W.fnOf "are_different" "are_different" (defArgs sAreD) (defBody sAreD) (defScope sAreD) .none kVAD dcAD pmAD anAD cdAD ctAD), slAD⟩) (cAD : PySem.W.codeIn K cdAD "are_different" = true) (kAD : PySem.W.keepIn K (.ref fAD) = true)
    (lFA : K.lookup fFA = some ⟨ocFA, odFA, .func (PySem.W.fnOf "_fault" "_fault" (defArgs sFault) (defBody sFault) (defScope sFault) .none kVFA dcFA pmFA anFA cdFA ctFA), slFA⟩) (cFA : PySem.W.codeIn K cdFA "_fault" = true) (kFA : PySem.W.keepIn K (.ref fFA) = true)
    (lLI : K.lookup fLI = some ⟨ocLI, odLI, .func (PySem.W.fnOf "_line" "_line" (defArgs sLine) (defBody sLine) (defScope sLine) .none kVLI dcLI pmLI anLI cdLI ctLI), slLI⟩) (cLI : PySem.W.codeIn K cdLI "_line" = true) (kLI : PySem.W.keepIn K (.ref fLI) = true)
    (lPN : K.lookup fPN = some ⟨ocPN, odPN, .func (PySem.W.fnOf "_law_pen" "_law_pen" (defArgs sPen) (defBody sPen) (defScope sPen) .none kVPN dcPN pmPN anPN cdPN ctPN), slPN⟩) (cPN : PySem.W.codeIn K cdPN "_law_pen" = true) (kPN : PySem.W.keepIn K (.ref fPN) = true)
    (lD : K.lookup fD = some ⟨ocD, odD, .func (PySem.W.fnOf "_law_draw" "_law_draw" (defArgs sDraw) (defBody sDraw) (defScope sDraw) .none kVD dcD pmD anD cdD ctD), slD⟩) (cD : PySem.W.codeIn K cdD "_law_draw" = true) (kD : PySem.W.keepIn K (.ref fD) = true)
    (lPK : K.lookup fPK = some ⟨ocPK, odPK, .func (PySem.W.fnOf "_law_pick" "_law_pick" (defArgs sPick) (defBody sPick) (defScope sPick) .none kVPK dcPK pmPK anPK cdPK ctPK), slPK⟩) (cPK : PySem.W.codeIn K cdPK "_law_pick" = true) (kPK : PySem.W.keepIn K (.ref fPK) = true)
    (lBA : K.lookup fBA = some ⟨ocBA, odBA, .func (PySem.W.fnOf "_law_barred" "_law_barred" (defArgs sBarred) (defBody sBarred) (defScope sBarred) .none kVBA dcBA pmBA anBA cdBA ctBA), slBA⟩) (cBA : PySem.W.codeIn K cdBA "_law_barred" = true) (kBA : PySem.W.keepIn K (.ref fBA) = true)
    (lWO : K.lookup fWO = some ⟨ocWO, odWO, .func (PySem.W.fnOf "_law_words" "_law_words" (defArgs sWords) (defBody sWords) (defScope sWords) .none kVWO dcWO pmWO anWO cdWO ctWO), slWO⟩) (cWO : PySem.W.codeIn K cdWO "_law_words" = true) (kWO : PySem.W.keepIn K (.ref fWO) = true)
    (lBE : K.lookup fBE = some ⟨ocBE, odBE, .func (PySem.W.fnOf "_law_begun" "_law_begun" (defArgs sBegun) (defBody sBegun) (defScope sBegun) .none kVBE dcBE pmBE anBE cdBE ctBE), slBE⟩) (cBE : PySem.W.codeIn K cdBE "_law_begun" = true) (kBE : PySem.W.keepIn K (.ref fBE) = true)
    (lMI : K.lookup fMI = some ⟨ocMI, odMI, .func (PySem.W.fnOf "_law_mixed" "_law_mixed" (defArgs sMixed) (defBody sMixed) (defScope sMixed) .none kVMI dcMI pmMI anMI cdMI ctMI), slMI⟩) (cMI : PySem.W.codeIn K cdMI "_law_mixed" = true) (kMI : PySem.W.keepIn K (.ref fMI) = true)
    (lRO : K.lookup fRO = some ⟨ocRO, odRO, .func (PySem.W.fnOf "_law_row" "_law_row" (defArgs sRow) (defBody sRow) (defScope sRow) .none kVRO dcRO pmRO anRO cdRO ctRO), slRO⟩) (cRO : PySem.W.codeIn K cdRO "_law_row" = true) (kRO : PySem.W.keepIn K (.ref fRO) = true)
    (lRS : K.lookup fRS = some ⟨ocRS, odRS, .func (PySem.W.fnOf "_law_rows" "_law_rows" (defArgs sRows) (defBody sRows) (defScope sRows) .none kVRS dcRS pmRS anRS cdRS ctRS), slRS⟩) (cRS : PySem.W.codeIn K cdRS "_law_rows" = true) (kRS : PySem.W.keepIn K (.ref fRS) = true)
    (lLT : K.lookup fLT = some ⟨ocLT, odLT, .func (PySem.W.fnOf "_law_light" "_law_light" (defArgs sLight) (defBody sLight) (defScope sLight) .none kVLT dcLT pmLT anLT cdLT ctLT), slLT⟩) (cLT : PySem.W.codeIn K cdLT "_law_light" = true) (kLT : PySem.W.keepIn K (.ref fLT) = true)
    (lHE : K.lookup fHE = some ⟨ocHE, odHE, .func (PySem.W.fnOf "_law_heard" "_law_heard" (defArgs sHeard) (defBody sHeard) (defScope sHeard) .none kVHE dcHE pmHE anHE cdHE ctHE), slHE⟩) (cHE : PySem.W.codeIn K cdHE "_law_heard" = true) (kHE : PySem.W.keepIn K (.ref fHE) = true)
    (lLQ : K.lookup fLQ = some ⟨ocLQ, odLQ, .func (PySem.W.fnOf "_law_is_word" "_law_is_word" (defArgs sLW) (defBody sLW) (defScope sLW) .none kVLQ dcLQ pmLQ anLQ cdLQ ctLQ), slLQ⟩) (cLQ : PySem.W.codeIn K cdLQ "_law_is_word" = true) (kLQ : PySem.W.keepIn K (.ref fLQ) = true)
    (lOD : K.lookup fOD = some ⟨ocOD, odOD, .func (PySem.W.fnOf "_law_odd" "_law_odd" (defArgs sOdd) (defBody sOdd) (defScope sOdd) .none kVOD dcOD pmOD anOD cdOD ctOD), slOD⟩) (cOD : PySem.W.codeIn K cdOD "_law_odd" = true) (kOD : PySem.W.keepIn K (.ref fOD) = true)
    (lER : K.lookup fER = some ⟨ocER, odER, .func (PySem.W.fnOf "_law_error" "_law_error" (defArgs sEr) (defBody sEr) (defScope sEr) .none kVER dcER pmER anER cdER ctER), slER⟩) (cER : PySem.W.codeIn K cdER "_law_error" = true) (kER : PySem.W.keepIn K (.ref fER) = true)
    (lDU : K.lookup fDU = some ⟨ocDU, odDU, .func (PySem.W.fnOf "_law_due" "_law_due" (defArgs sDue) (defBody sDue) (defScope sDue) .none kVDU dcDU pmDU anDU cdDU ctDU), slDU⟩) (cDU : PySem.W.codeIn K cdDU "_law_due" = true) (kDU : PySem.W.keepIn K (.ref fDU) = true)
    (lBT : K.lookup fBT = some ⟨ocBT, odBT, .func (PySem.W.fnOf "_law_bent" "_law_bent" (defArgs sBt) (defBody sBt) (defScope sBt) .none kVBT dcBT pmBT anBT cdBT ctBT), slBT⟩) (cBT : PySem.W.codeIn K cdBT "_law_bent" = true) (kBT : PySem.W.keepIn K (.ref fBT) = true)
    (lSP : K.lookup fSP = some ⟨ocSP, odSP, .func (PySem.W.fnOf "_law_spoiled" "_law_spoiled" (defArgs sSp) (defBody sSp) (defScope sSp) .none kVSP dcSP pmSP anSP cdSP ctSP), slSP⟩) (cSP : PySem.W.codeIn K cdSP "_law_spoiled" = true) (kSP : PySem.W.keepIn K (.ref fSP) = true)
    (lPR : K.lookup fPR = some ⟨ocPR, odPR, .func (PySem.W.fnOf "_law_pieces_right" "_law_pieces_right" (defArgs sPR) (defBody sPR) (defScope sPR) .none kVPR dcPR pmPR anPR (.ref cC2) ctPR), slPR⟩) (cPR : PySem.W.codeIn K (.ref cC2) "_law_pieces_right" = true) (kPR : PySem.W.keepIn K (.ref fPR) = true)
    (lLW : K.lookup fLW = some ⟨ocLW, odLW, .func (PySem.W.fnOf "law" "law" (defArgs sLaw) (defBody sLaw) (defScope sLaw) .none kVLW dcLW pmLW anLW (.ref cC) ctLW), slLW⟩) (cLW : PySem.W.codeIn K (.ref cC) "law" = true) (kLW : PySem.W.keepIn K (.ref fLW) = true)
    (lIN : K.lookup fIN = some ⟨ocIN, odIN, .func (PySem.W.fnOf "__init__" "Classes.__init__" (defArgs sInit) (defBody sInit) (defScope sInit) .none kVIN dcIN pmIN anIN cdIN ctIN), slIN⟩) (cIN : PySem.W.codeIn K cdIN "Classes.__init__" = true) (kIN : PySem.W.keepIn K (.ref fIN) = true)
    (lMA : K.lookup fMA = some ⟨ocMA, odMA, .func (PySem.W.fnOf "made" "Classes.made" (defArgs sMade) (defBody sMade) (defScope sMade) .none kVMA dcMA pmMA anMA cdMA ctMA), slMA⟩) (cMA : PySem.W.codeIn K cdMA "Classes.made" = true) (kMA : PySem.W.keepIn K (.ref fMA) = true)
    (lLN : K.lookup fLN = some ⟨ocLN, odLN, .func (PySem.W.fnOf "__len__" "Classes.__len__" (defArgs sLen) (defBody sLen) (defScope sLen) .none kVLN dcLN pmLN anLN cdLN ctLN), slLN⟩) (cLN : PySem.W.codeIn K cdLN "Classes.__len__" = true) (kLN : PySem.W.keepIn K (.ref fLN) = true)
    (lWR : K.lookup fWR = some ⟨ocWR, odWR, .func (PySem.W.fnOf "with_rows" "Classes.with_rows" (defArgs sWR) (defBody sWR) (defScope sWR) .none kVWR dcWR pmWR anWR cdWR ctWR), slWR⟩) (cWR : PySem.W.codeIn K cdWR "Classes.with_rows" = true) (kWR : PySem.W.keepIn K (.ref fWR) = true)
    (lNI : K.lookup fNI = some ⟨ocNI, odNI, .func (PySem.W.fnOf "__init__" "NoClass.__init__" (defArgs sNCI) (defBody sNCI) (defScope sNCI) .none kVNI dcNI pmNI anNI cdNI ctNI), slNI⟩) (cNI : PySem.W.codeIn K cdNI "NoClass.__init__" = true) (kNI : PySem.W.keepIn K (.ref fNI) = true)
    (aC : PySem.W.nsIn K mainGlobals "Classes" = some (some (.ref C)))
    (aIN : PySem.W.findIn K (.ref C) "__init__" = some (some (.ref fIN)))
    (iIN : PySem.W.isFn K (.ref fIN) = true)
    (aLN : PySem.W.findIn K (.ref C) "__len__" = some (some (.ref fLN)))
    (iLN : PySem.W.isFn K (.ref fLN) = true)
    (aWR : PySem.W.findIn K (.ref C) "with_rows" = some (some (.ref fWR)))
    (iWR : PySem.W.isFn K (.ref fWR) = true)
    (e_LeaveError : PySem.W.nsIn K mainGlobals "LeaveError" = some (some (.ref cE0)))
    (e_NoClass : PySem.W.nsIn K mainGlobals "NoClass" = some (some (.ref cE1)))
    (e_NoFunction : PySem.W.nsIn K mainGlobals "NoFunction" = some (some (.ref cE2)))
    (e_NoProgram : PySem.W.nsIn K mainGlobals "NoProgram" = some (some (.ref cE3)))
    (e_NoName : PySem.W.nsIn K mainGlobals "NoName" = some (some (.ref cE4)))
    (e_NoCase : PySem.W.nsIn K mainGlobals "NoCase" = some (some (.ref cE5)))
    (e_TooMany : PySem.W.nsIn K mainGlobals "TooMany" = some (some (.ref cE6)))
    (e_NoText : PySem.W.nsIn K mainGlobals "NoText" = some (some (.ref cE7)))
    (e_NoAct : PySem.W.nsIn K mainGlobals "NoAct" = some (some (.ref cE8)))
    (e_NoRecord : PySem.W.nsIn K mainGlobals "NoRecord" = some (some (.ref cE9)))
    (e_Barred : PySem.W.nsIn K mainGlobals "Barred" = some (some (.ref cE10)))
    (e_Unlike : PySem.W.nsIn K mainGlobals "Unlike" = some (some (.ref cE11)))
    (e_NoRow : PySem.W.nsIn K mainGlobals "NoRow" = some (some (.ref cE12)))
    (aNI : PySem.W.findIn K (.ref cE1) "__init__" = some (some (.ref fNI)))
    (tNI : PySem.W.typeIn K (.ref fNI) = some (.type "function"))
    (oK_z : K.lookup cE1 = some (excClassObj nm_z q_z cE1 N_z bs_z bm_z true sn_z sub_z ab_z col_z dd_z k0_z k1_z k2_z k3_z k5_z "ValueError.__new__"))
    (oR_z : PySem.HandSPX.refsVE bm_z = true)
    (z_sa : PySem.W.findIn K (.ref cE1) "__setattr__" = some (some (.builtin "object.__setattr__")))
    (z_be : PySem.W.subIn K (.ref cE1) (.type "BaseException") = some true)
    (z_ty : PySem.W.typeIn K (.ref cE1) = some (.type "type"))
    (z_kp : PySem.W.keepIn K (.ref cE1) = true)
    (z_re : PySem.W.findIn K (.ref cE1) "reason" = some none)
    (z_pl : PySem.W.findIn K (.ref cE1) "place" = some none)
    (z_ga : PySem.W.findIn K (.ref cE1) "__getattribute__" = some (some (.builtin "BaseException.__getattribute__")))
    (z_gg : PySem.W.findIn K (.ref cE1) "__getattr__" = some none)
    (z_hd : PySem.W.hasDictIn K cE1 = true)
    (z_cl : PySem.W.findIn K (.ref cE1) "__class__" = some (some (.builtin "object.__class__")))
    (x_gs : PySem.W.specialIn K (.builtin "object.__class__") "__get__" = some (some (.builtin "getset_descriptor.__get__")))
    (x_tk : PySem.W.takesIn K (.builtin "object.__class__") = some true)
    (z_ob : PySem.W.mroIn K cE1 (.type "object") = some true)
    (y_be : PySem.W.subIn K (.ref cE0) (.type "BaseException") = some true)
    (y_hd : PySem.W.hasDictIn K cE0 = true)
    (y_ty : PySem.W.typeIn K (.ref cE0) = some (.type "type"))
    (y_su : PySem.W.subIn K (.ref cE1) (.ref cE0) = some true)
    (z_ve : PySem.W.subIn K (.ref cE1) (.type "ValueError") = some true)
    (n2 : (cE1 == cE2) = false) (ic2 : PySem.W.isClsIn K cE2 = true) (ty2 : PySem.W.typeIn K (.ref cE2) = some (.type "type")) (su2 : PySem.W.subIn K (.ref cE1) (.ref cE2) = some false)
    (n3 : (cE1 == cE3) = false) (ic3 : PySem.W.isClsIn K cE3 = true) (ty3 : PySem.W.typeIn K (.ref cE3) = some (.type "type")) (su3 : PySem.W.subIn K (.ref cE1) (.ref cE3) = some false)
    (n4 : (cE1 == cE4) = false) (ic4 : PySem.W.isClsIn K cE4 = true) (ty4 : PySem.W.typeIn K (.ref cE4) = some (.type "type")) (su4 : PySem.W.subIn K (.ref cE1) (.ref cE4) = some false)
    (n5 : (cE1 == cE5) = false) (ic5 : PySem.W.isClsIn K cE5 = true) (ty5 : PySem.W.typeIn K (.ref cE5) = some (.type "type")) (su5 : PySem.W.subIn K (.ref cE1) (.ref cE5) = some false)
    (n6 : (cE1 == cE6) = false) (ic6 : PySem.W.isClsIn K cE6 = true) (ty6 : PySem.W.typeIn K (.ref cE6) = some (.type "type")) (su6 : PySem.W.subIn K (.ref cE1) (.ref cE6) = some false)
    (n7 : (cE1 == cE7) = false) (ic7 : PySem.W.isClsIn K cE7 = true) (ty7 : PySem.W.typeIn K (.ref cE7) = some (.type "type")) (su7 : PySem.W.subIn K (.ref cE1) (.ref cE7) = some false)
    (n8 : (cE1 == cE8) = false) (ic8 : PySem.W.isClsIn K cE8 = true) (ty8 : PySem.W.typeIn K (.ref cE8) = some (.type "type")) (su8 : PySem.W.subIn K (.ref cE1) (.ref cE8) = some false)
    (n9 : (cE1 == cE9) = false) (ic9 : PySem.W.isClsIn K cE9 = true) (ty9 : PySem.W.typeIn K (.ref cE9) = some (.type "type")) (su9 : PySem.W.subIn K (.ref cE1) (.ref cE9) = some false)
    (n10 : (cE1 == cE10) = false) (ic10 : PySem.W.isClsIn K cE10 = true) (ty10 : PySem.W.typeIn K (.ref cE10) = some (.type "type")) (su10 : PySem.W.subIn K (.ref cE1) (.ref cE10) = some false)
    (n11 : (cE1 == cE11) = false) (ic11 : PySem.W.isClsIn K cE11 = true) (ty11 : PySem.W.typeIn K (.ref cE11) = some (.type "type")) (su11 : PySem.W.subIn K (.ref cE1) (.ref cE11) = some false)
    (n12 : (cE1 == cE12) = false) (ic12 : PySem.W.isClsIn K cE12 = true) (ty12 : PySem.W.typeIn K (.ref cE12) = some (.type "type")) (su12 : PySem.W.subIn K (.ref cE1) (.ref cE12) = some false)
    (pg : PySem.W.plainGet K C Str.empty = true)
    (hd : PySem.W.hasDictIn K C = true)
    (po : PySem.W.plainOver K C = true)
    (sa : PySem.W.findIn K (.ref C) "__setattr__" = some (some (.builtin "object.__setattr__")))
    (mk : PySem.W.makesIn K C = true)
    (kc : PySem.W.keepIn K (.ref C) = true)
    (nR : PySem.W.findIn K (.ref C) "rows" = some none)
    (nN : PySem.W.findIn K (.ref C) "names" = some none)
    (nL : PySem.W.findIn K (.ref C) "_lines" = some none)
    (rd : PySem.W.readsIn K C (.type "type") = true)
    (ga : PySem.W.specialIn K (.ref C) "__getattribute__" = some (some (.builtin "type.__getattribute__")))
    (cm : PySem.W.findCls K (.ref C) (.type "type") "made" = some (.get (.builtin "classmethod.__get__") (.ref pM) .none (.ref C)))
    (rc : PySem.W.recIn K pM "classmethod" = some (.ref fMA :: rest))
    (fi : PySem.W.fnIn K fMA = true)
    (zL : PySem.W.nsIn K mainGlobals "LONGEST" = some (some (.int 8 t1)))
    (zM : PySem.W.nsIn K mainGlobals "MOST_ROWS" = some (some (.int 30 t2)))
    (zR : PySem.W.nsIn K mainGlobals "RESERVED" = some (some (.ref aR)))
    (lR : K.lookup aR = some ⟨.type "tuple", ddR, .seq itsR nR2, slR⟩)
    (vR : chkS resd itsR.toList = true)
    (szR : itsR.size ≤ sizeLine)
    (b_len : PySem.W.nsIn K mainGlobals "len" = some none)
    (b_int : PySem.W.nsIn K mainGlobals "int" = some none)
    (b_abs : PySem.W.nsIn K mainGlobals "abs" = some none)
    (b_range : PySem.W.nsIn K mainGlobals "range" = some none)
    (b_list : PySem.W.nsIn K mainGlobals "list" = some none)
    (b_tuple : PySem.W.nsIn K mainGlobals "tuple" = some none)
    (b_enumerate : PySem.W.nsIn K mainGlobals "enumerate" = some none)
    (b_isinstance : PySem.W.nsIn K mainGlobals "isinstance" = some none)
    (b_str : PySem.W.nsIn K mainGlobals "str" = some none)
    (b_set : PySem.W.nsIn K mainGlobals "set" = some none)
    (b_all : PySem.W.nsIn K mainGlobals "all" = some none)
    (b_repr : PySem.W.nsIn K mainGlobals "repr" = some none)
    (b_sorted : PySem.W.nsIn K mainGlobals "sorted" = some none)
    (b_min : PySem.W.nsIn K mainGlobals "min" = some none)
    (b_ValueError : PySem.W.nsIn K mainGlobals "ValueError" = some none)
    (tab : PySem.W.tabIn K "law" = some (cC, cP))
    (hCd : PySem.W.codeHdIn K cC cP = true)
    (nP : K.lookup cP = none)
    (hP : h.get? cP = some { cls := .none, data := .fields #[] })
    (tab2 : PySem.W.tabIn K "_law_pieces_right" = some (cC2, cP2))
    (hCd2 : PySem.W.codeHdIn K cC2 cP2 = true)
    (nP2 : K.lookup cP2 = none)
    (hP2 : h.get? cP2 = some { cls := .none, data := .fields #[] })
    (npt : (cP == cP2) = false)
    : ∃ (fd : FuncData) (cs : List (Addr × Addr)) (sp : Sp), (∀ p ∈ cs, h.get? p.2 = some { cls := .none, data := .fields #[] }) ∧ (∀ p ∈ cs, K.lookup p.2 = none) ∧ (∀ p ∈ cs, PySem.W.CodeHd h p.1 p.2) ∧ (∀ (s : Shared) (u : Value), BindsTo s fd ⟨[u], []⟩ [("_law_script", u)]) ∧
        (∀ (H : Hp) (a : Addr) (ns : List Int), ns.length ≤ 63 → (∀ p ∈ cs, H p.2 = some (.tbl #[])) → SqL K H a (ns.map V.int) → sp [.ref a] H (fun v _ => v = .bl true) fun _ _ _ => False) ∧
        ∀ base : Heap, K.In base → base.Ns mainGlobals mg → (∀ p ∈ cs, TabB base mg p.1 p.2) → FnG l.prog w K mg base 10 fa fd ["_law_script"] sp := by
  have e := hfa.symm.trans (PySem.W.mg_of X G aLW)
  cases e
  have T : Bi mg := ⟨PySem.W.mg_none_of X G b_len, PySem.W.mg_none_of X G b_int, PySem.W.mg_none_of X G b_abs, PySem.W.mg_none_of X G b_range, PySem.W.mg_none_of X G b_list, PySem.W.mg_none_of X G b_tuple, PySem.W.mg_none_of X G b_enumerate, PySem.W.mg_none_of X G b_isinstance, PySem.W.mg_none_of X G b_str, PySem.W.mg_none_of X G b_set, PySem.W.mg_none_of X G b_all, PySem.W.mg_none_of X G b_repr⟩
  have GB : Gb K mg aR t1 t2 := ⟨PySem.W.mg_of X G zL, PySem.W.mg_of X G zM, PySem.W.mg_of X G zR, fun H => .inr ⟨_, itsR, nR2, lR, rfl, rfl, szR, chk_vals vR⟩⟩
  have Y : Txt K mg C := ⟨⟨pg, hd, po, sa⟩, nR, nN, nL, PySem.W.mg_of X G aC⟩
  have FIW := fun_mk (st := sIsW) lIW cIW kIW
  have FAW := fun_mk (st := sAreW) lAW cAW kAW
  have FAD := fun_mk (st := sAreD) lAD cAD kAD
  have FFA := fun_mk (st := sFault) lFA cFA kFA
  have FLI := fun_mk (st := sLine) lLI cLI kLI
  have FPN := fun_mk (st := sPen) lPN cPN kPN
  have FD := fun_mk (st := sDraw) lD cD kD
  have FPK := fun_mk (st := sPick) lPK cPK kPK
  have FBA := fun_mk (st := sBarred) lBA cBA kBA
  have FWO := fun_mk (st := sWords) lWO cWO kWO
  have FBE := fun_mk (st := sBegun) lBE cBE kBE
  have FMI := fun_mk (st := sMixed) lMI cMI kMI
  have FRO := fun_mk (st := sRow) lRO cRO kRO
  have FRS := fun_mk (st := sRows) lRS cRS kRS
  have FLT := fun_mk (st := sLight) lLT cLT kLT
  have FHE := fun_mk (st := sHeard) lHE cHE kHE
  have FLQ := fun_mk (st := sLW) lLQ cLQ kLQ
  have FOD := fun_mk (st := sOdd) lOD cOD kOD
  have FER := fun_mk (st := sEr) lER cER kER
  have FDU := fun_mk (st := sDue) lDU cDU kDU
  have FBT := fun_mk (st := sBt) lBT cBT kBT
  have FSP := fun_mk (st := sSp) lSP cSP kSP
  have FPR := fun_mk (st := sPR) lPR cPR kPR
  have FLW := fun_mk (st := sLaw) lLW cLW kLW
  have FIN := fun_mk (st := sInit) lIN cIN kIN
  have FMA := fun_mk (st := sMade) lMA cMA kMA
  have FLN := fun_mk (st := sLen) lLN cLN kLN
  have FWR := fun_mk (st := sWR) lWR cWR kWR
  have FNI := fun_mk (st := sNCI) lNI cNI kNI
  have DIW : Df K mg "is_word" sIsW fIW _ (["x"] : List Str) := ⟨FIW, PySem.W.mg_of X G aIW, FIW.binds (ps := ["x"]) fun _ _ _ _ _ _ us hl => match us, hl with | [_], _ => rfl⟩
  have DAW : Df K mg "are_words" sAreW fAW _ (["xs"] : List Str) := ⟨FAW, PySem.W.mg_of X G aAW, FAW.binds (ps := ["xs"]) fun _ _ _ _ _ _ us hl => match us, hl with | [_], _ => rfl⟩
  have DAD : Df K mg "are_different" sAreD fAD _ (["words"] : List Str) := ⟨FAD, PySem.W.mg_of X G aAD, FAD.binds (ps := ["words"]) fun _ _ _ _ _ _ us hl => match us, hl with | [_], _ => rfl⟩
  have DFA : Df K mg "_fault" sFault fFA _ (["row", "k", "lines"] : List Str) := ⟨FFA, PySem.W.mg_of X G aFA, FFA.binds (ps := ["row", "k", "lines"]) fun _ _ _ _ _ _ us hl => match us, hl with | [_, _, _], _ => rfl⟩
  have DLI : Df K mg "_line" sLine fLI _ (["row", "lines"] : List Str) := ⟨FLI, PySem.W.mg_of X G aLI, FLI.binds (ps := ["row", "lines"]) fun _ _ _ _ _ _ us hl => match us, hl with | [_, _], _ => rfl⟩
  have DPN : Df K mg "_law_pen" sPen fPN _ (["_law_script"] : List Str) := ⟨FPN, PySem.W.mg_of X G aPN, FPN.binds (ps := ["_law_script"]) fun _ _ _ _ _ _ us hl => match us, hl with | [_], _ => rfl⟩
  have DD : Df K mg "_law_draw" sDraw fD _ (["_law_pen_here", "_law_many"] : List Str) := ⟨FD, PySem.W.mg_of X G aD, FD.binds (ps := ["_law_pen_here", "_law_many"]) fun _ _ _ _ _ _ us hl => match us, hl with | [_, _], _ => rfl⟩
  have DPK : Df K mg "_law_pick" sPick fPK _ (["_law_pen_here", "_law_some"] : List Str) := ⟨FPK, PySem.W.mg_of X G aPK, FPK.binds (ps := ["_law_pen_here", "_law_some"]) fun _ _ _ _ _ _ us hl => match us, hl with | [_, _], _ => rfl⟩
  have DBA : Df K mg "_law_barred" sBarred fBA _ ([] : List Str) := ⟨FBA, PySem.W.mg_of X G aBA, FBA.binds (ps := []) fun _ _ _ _ _ _ us hl => match us, hl with | [], _ => rfl⟩
  have DWO : Df K mg "_law_words" sWords fWO _ (["_law_pen_here", "_law_many"] : List Str) := ⟨FWO, PySem.W.mg_of X G aWO, FWO.binds (ps := ["_law_pen_here", "_law_many"]) fun _ _ _ _ _ _ us hl => match us, hl with | [_, _], _ => rfl⟩
  have DBE : Df K mg "_law_begun" sBegun fBE _ (["_law_pen_here", "_law_many"] : List Str) := ⟨FBE, PySem.W.mg_of X G aBE, FBE.binds (ps := ["_law_pen_here", "_law_many"]) fun _ _ _ _ _ _ us hl => match us, hl with | [_, _], _ => rfl⟩
  have DMI : Df K mg "_law_mixed" sMixed fMI _ (["_law_pen_here", "_law_some"] : List Str) := ⟨FMI, PySem.W.mg_of X G aMI, FMI.binds (ps := ["_law_pen_here", "_law_some"]) fun _ _ _ _ _ _ us hl => match us, hl with | [_, _], _ => rfl⟩
  have DRO : Df K mg "_law_row" sRow fRO _ (["_law_pen_here", "_law_word", "_law_known"] : List Str) := ⟨FRO, PySem.W.mg_of X G aRO, FRO.binds (ps := ["_law_pen_here", "_law_word", "_law_known"]) fun _ _ _ _ _ _ us hl => match us, hl with | [_, _, _], _ => rfl⟩
  have DRS : Df K mg "_law_rows" sRows fRS _ (["_law_pen_here", "_law_words_here"] : List Str) := ⟨FRS, PySem.W.mg_of X G aRS, FRS.binds (ps := ["_law_pen_here", "_law_words_here"]) fun _ _ _ _ _ _ us hl => match us, hl with | [_, _], _ => rfl⟩
  have DLT : Df K mg "_law_light" sLight fLT _ (["_law_rows_here"] : List Str) := ⟨FLT, PySem.W.mg_of X G aLT, FLT.binds (ps := ["_law_rows_here"]) fun _ _ _ _ _ _ us hl => match us, hl with | [_], _ => rfl⟩
  have DHE : Df K mg "_law_heard" sHeard fHE _ (["_law_ask"] : List Str) := ⟨FHE, PySem.W.mg_of X G aHE, FHE.binds (ps := ["_law_ask"]) fun _ _ _ _ _ _ us hl => match us, hl with | [_], _ => rfl⟩
  have DLQ : Df K mg "_law_is_word" sLW fLQ _ (["_law_thing"] : List Str) := ⟨FLQ, PySem.W.mg_of X G aLQ, FLQ.binds (ps := ["_law_thing"]) fun _ _ _ _ _ _ us hl => match us, hl with | [_], _ => rfl⟩
  have DOD : Df K mg "_law_odd" sOdd fOD _ (["_law_pen_here"] : List Str) := ⟨FOD, PySem.W.mg_of X G aOD, FOD.binds (ps := ["_law_pen_here"]) fun _ _ _ _ _ _ us hl => match us, hl with | [_], _ => rfl⟩
  have DER : Df K mg "_law_error" sEr fER _ (["_law_heard_here"] : List Str) := ⟨FER, PySem.W.mg_of X G aER, FER.binds (ps := ["_law_heard_here"]) fun _ _ _ _ _ _ us hl => match us, hl with | [_], _ => rfl⟩
  have DDU : Df K mg "_law_due" sDue fDU _ (["_law_rows_here"] : List Str) := ⟨FDU, PySem.W.mg_of X G aDU, FDU.binds (ps := ["_law_rows_here"]) fun _ _ _ _ _ _ us hl => match us, hl with | [_], _ => rfl⟩
  have DBT : Df K mg "_law_bent" sBt fBT _ (["_law_pen_here", "_law_rows_here", "_law_k"] : List Str) := ⟨FBT, PySem.W.mg_of X G aBT, FBT.binds (ps := ["_law_pen_here", "_law_rows_here", "_law_k"]) fun _ _ _ _ _ _ us hl => match us, hl with | [_, _, _], _ => rfl⟩
  have DSP : Df K mg "_law_spoiled" sSp fSP _ (["_law_pen_here", "_law_rows_here"] : List Str) := ⟨FSP, PySem.W.mg_of X G aSP, FSP.binds (ps := ["_law_pen_here", "_law_rows_here"]) fun _ _ _ _ _ _ us hl => match us, hl with | [_, _], _ => rfl⟩
  have DPR : Df K mg "_law_pieces_right" sPR fPR _ (["_law_pen_here", "_law_rows_here", "_law_due_here"] : List Str) := ⟨FPR, PySem.W.mg_of X G aPR, FPR.binds (ps := ["_law_pen_here", "_law_rows_here", "_law_due_here"]) fun _ _ _ _ _ _ us hl => match us, hl with | [_, _, _], _ => rfl⟩
  have BMA := FMA.binds (ps := ["cls", "rows"]) fun _ _ _ _ _ _ us hl => match us, hl with | [_, _], _ => rfl
  have BLN := FLN.binds (ps := ["self"]) fun _ _ _ _ _ _ us hl => match us, hl with | [_], _ => rfl
  have BNI := FNI.binds (ps := ["self", "reason", "place"]) fun _ _ _ _ _ _ us hl => match us, hl with | [_, _, _], _ => rfl
  let cl : Str → Addr := fun x => (([("LeaveError", cE0), ("NoClass", cE1), ("NoFunction", cE2), ("NoProgram", cE3), ("NoName", cE4), ("NoCase", cE5), ("TooMany", cE6), ("NoText", cE7), ("NoAct", cE8), ("NoRecord", cE9), ("Barred", cE10), ("Unlike", cE11), ("NoRow", cE12)] : List (Str × Addr)).lookup x).getD 0
  have hcl : ∀ x ∈ errs, mg x = some (.ref (cl x)) := fun x hx => by
    simp only [errs, List.mem_cons, List.not_mem_nil, or_false] at hx
    rcases hx with rfl | rfl | rfl | rfl | rfl | rfl | rfl | rfl | rfl | rfl | rfl | rfl | rfl
    · exact PySem.W.mg_of X G e_LeaveError
    · exact PySem.W.mg_of X G e_NoClass
    · exact PySem.W.mg_of X G e_NoFunction
    · exact PySem.W.mg_of X G e_NoProgram
    · exact PySem.W.mg_of X G e_NoName
    · exact PySem.W.mg_of X G e_NoCase
    · exact PySem.W.mg_of X G e_TooMany
    · exact PySem.W.mg_of X G e_NoText
    · exact PySem.W.mg_of X G e_NoAct
    · exact PySem.W.mg_of X G e_NoRecord
    · exact PySem.W.mg_of X G e_Barred
    · exact PySem.W.mg_of X G e_Unlike
    · exact PySem.W.mg_of X G e_NoRow
  have hC : OfClass K cl cE1 := ⟨PySem.W.exm_ref y_be y_hd y_ty y_su, ⟨z_ga, z_gg, z_be, z_hd, z_cl, x_gs, x_tk, z_ob⟩, ⟨z_ga, z_gg, z_be, z_hd⟩, z_re, z_pl,
    kit_same, kit_ref n2 ic2 ty2 su2, kit_ref n3 ic3 ty3 su3, kit_ref n4 ic4 ty4 su4, kit_ref n5 ic5 ty5 su5, kit_ref n6 ic6 ty6 su6,
    any_no (kit_ref n7 ic7 ty7 su7) (any_no (kit_ref n8 ic8 ty8 su8) (any_no (kit_ref n9 ic9 ty9 su9) (any_no (kit_ref n10 ic10 ty10 su10) (any_no (kit_ref n11 ic11 ty11 su11) (any_no (kit_ref n12 ic12 ty12 su12) rfl))))), kit_ve z_ve⟩
  have NCx : NC K mg cE1 fNI := ⟨⟨⟨_, _, _, _, _, _, _, _, _, _, _, _, _, _, _, oK_z, oR_z⟩, z_sa, z_be, z_ty, z_kp⟩, z_re, z_pl, aNI, tNI, PySem.W.mg_of X G e_NoClass⟩
  have tSo := PySem.W.mg_none_of X G b_sorted
  have tMin := PySem.W.mg_none_of X G b_min
  have tVE := PySem.W.mg_none_of X G b_ValueError
  have M : Mk K C fIN := ⟨mk, aIN, iIN, kc⟩
  have mWR : Meth K C "with_rows" fWR := ⟨aWR, iWR, kWR⟩
  have hne : cP ≠ cP2 := fun e => by rw [e] at npt; simp at npt
  have mm : ∀ p ∈ [(cC, cP), (cC2, cP2)], p = (cC, cP) ∨ p = (cC2, cP2) := fun p hp => by simpa using hp
  refine ⟨_, [(cC, cP), (cC2, cP2)], spLaw K cP cP2, fun p hp => ?_, fun p hp => ?_, fun p hp => ?_, fun z u => .of_eq (fd := (PySem.W.fnOf "law" "law" (defArgs sLaw) (defBody sLaw) (defScope sLaw) .none kVLW dcLW pmLW anLW (.ref cC) ctLW)) rfl, fun H a ns hl hT hS => ⟨a, ns, rfl, hS, hl, hT _ List.mem_cons_self, hT _ (List.mem_cons_of_mem _ (List.mem_singleton.mpr rfl)), fun _ => rfl⟩, fun base _ _ hTB => ?_⟩
  · rcases mm p hp with rfl | rfl
    · exact hP
    · exact hP2
  · rcases mm p hp with rfl | rfl
    · exact nP
    · exact nP2
  · rcases mm p hp with rfl | rfl
    · exact PySem.W.codeHd_of_K X hCd
    · exact PySem.W.codeHd_of_K X hCd2
  have GD := ok_draw (P := l.prog) (w := w) (base := base) FD T
  have GP := ok_pick (P := l.prog) (w := w) (base := base) FPK T DD
  have GBa := ok_barred (P := l.prog) (w := w) (mg := mg) (base := base) FBA
  have GWo := ok_words (P := l.prog) (w := w) (base := base) FWO T DD DPK DBA
  have GBe := ok_begun FBE T DD DWO GWo
  have GMi := ok_mixed (P := l.prog) (w := w) (base := base) FMI T DD
  have GRo := ok_row FRO T DPK GP DMI GMi
  have GRs := ok_rows FRS DRO GRo
  have GIw := ok_isw (P := l.prog) (w := w) (base := base) FIW T GB
  have GAw := ok_arew FAW T DIW GIw
  have GAd := ok_ared (P := l.prog) (w := w) (base := base) FAD T
  have GFa := ok_fault FFA T GB DAW GAw DAD GAd
  have GIwG := ok_iswG (P := l.prog) (w := w) (base := base) FIW T GB
  have GAwG := ok_arewG FAW T DIW GIwG
  have GAdG := ok_aredG (P := l.prog) (w := w) (base := base) FAD T
  have GFaX := ok_faultX FFA T GB DAW GAwG DAD GAdG
  have GLi := ok_line (P := l.prog) (w := w) (mg := mg) (base := base) FLI
  have GIn : FnR l.prog w K mg base CX0 4 fIN (spInitR C) := ok_init FIN Y T DFA GFa DLI GLi
  have GNi := ok_nci (P := l.prog) (w := w) (base := base) FNI NCx
  have GInX : FnR l.prog w K mg base (L2.CX l.prog w) 4 fIN (spInitXR K C cE1) := ok_initX FIN Y T DFA GFa GFaX DLI GLi NCx GNi BNI
  have GMa := ok_made FMA M GIn
  have GLn := ok_lenC (P := l.prog) (w := w) (base := base) FLN Y T
  have GWr := ok_wr FWR Y M GIn
  have GWx := ok_wrX FWR Y M GInX
  have cR : ClX.CRead K C (.type "type") := ⟨rd, ga⟩
  have cM : ClX.CMet K C (.type "type") "made" pM fMA := ⟨cm, ⟨rest, rc⟩, fi⟩
  have GMx := ok_madeX FMA M GInX
  have GMa2 := ok_made2 GMa GMx
  have GI2 := GIn.lift.or GInX
  have GWB : FnR l.prog w K mg base (L2.CX l.prog w) 6 fWR (spWRB K C cE1) := GWr.lift.or GWx
  have GPn := ok_pen (P := l.prog) (w := w) (base := base) FPN T
  have GLt := ok_light (P := l.prog) (w := w) (mg := mg) (base := base) FLT
  have GLw := ok_lw FLQ T DBA GBa
  have GOd := ok_odd FOD T DBA GBa DPK GP
  have GEr := ok_er (P := l.prog) (w := w) (base := base) FER T
  have GDu := ok_due FDU T tSo DLQ GLw
  have GBt := ok_bt FBT T DD GD DOD GOd DPK GP
  have GSp := ok_sp FSP T DD GD DBT GBt
  have GPr := ok_pr (PT := cP) FPR rfl (hTB _ (List.mem_cons_of_mem _ (List.mem_singleton.mpr rfl))) hne T tMin tVE hcl hC Y DD GD DHE DER GEr GLn BLN aLN iLN mWR GWB cR cM GMa BMA
  exact ok_law FLW rfl (hTB _ List.mem_cons_self) hne T tVE hcl hC Y M DPN GPn DD GD DPK GP DBE GBe DRS GRs DSP GSp DDU GDu DLT GLt DHE DER GEr DPR GPr GI2 cR cM GMa2 BMA
end K2
end
section
set_option Elab.async false
set_option maxRecDepth 100000
open PySem PySem.W PyProof.Rows
set_option maxRecDepth 100000 in
set_option maxHeartbeats 0 in
theorem PySem.Challenge.cw_whatleaves_k03_rows_refused_holds : PySem.Challenge.rw_whatleaves_k03_rows_refused.Holds := by
  w_on; o_law; k_head; (case hw => w_witness2)
  k_fill
  refine K2.walk_ofTG (l := PySem.Challenge.rw_whatleaves_k03_rows_refused) (n := 63) (k := 10) (x := "_law_script") rfl (by decide) rfl ⟨rfl, by decide, by decide⟩ (fun w h Y => PySem.W.km_in_of Y) ?F
  case F =>
    intro w mg fa h YY KX G hmg
    refine' K2.all_mk KX G hmg ?aIW ?aAW ?aAD ?aFA ?aLI ?aPN ?aD ?aPK ?aBA ?aWO ?aBE ?aMI ?aRO ?aRS ?aLT ?aHE ?aLQ ?aOD ?aER ?aDU ?aBT ?aSP ?aPR ?aLW ?lIW ?cIW ?kIW ?lAW ?cAW ?kAW ?lAD ?cAD ?kAD ?lFA ?cFA ?kFA ?lLI ?cLI ?kLI ?lPN ?cPN ?kPN ?lD ?cD ?kD ?lPK ?cPK ?kPK ?lBA ?cBA ?kBA ?lWO ?cWO ?kWO ?lBE ?cBE ?kBE ?lMI ?cMI ?kMI ?lRO ?cRO ?kRO ?lRS ?cRS ?kRS ?lLT ?cLT ?kLT ?lHE ?cHE ?kHE ?lLQ ?cLQ ?kLQ ?lOD ?cOD ?kOD ?lER ?cER ?kER ?lDU ?cDU ?kDU ?lBT ?cBT ?kBT ?lSP ?cSP ?kSP ?lPR ?cPR ?kPR ?lLW ?cLW ?kLW ?lIN ?cIN ?kIN ?lMA ?cMA ?kMA ?lLN ?cLN ?kLN ?lWR ?cWR ?kWR ?lNI ?cNI ?kNI ?aC ?aIN ?iIN ?aLN ?iLN ?aWR ?iWR ?e_LeaveError ?e_NoClass ?e_NoFunction ?e_NoProgram ?e_NoName ?e_NoCase ?e_TooMany ?e_NoText ?e_NoAct ?e_NoRecord ?e_Barred ?e_Unlike ?e_NoRow ?aNI ?tNI ?oK_z ?oR_z ?z_sa ?z_be ?z_ty ?z_kp ?z_re ?z_pl ?z_ga ?z_gg ?z_hd ?z_cl ?x_gs ?x_tk ?z_ob ?y_be ?y_hd ?y_ty ?y_su ?z_ve ?n2 ?ic2 ?ty2 ?su2 ?n3 ?ic3 ?ty3 ?su3 ?n4 ?ic4 ?ty4 ?su4 ?n5 ?ic5 ?ty5 ?su5 ?n6 ?ic6 ?ty6 ?su6 ?n7 ?ic7 ?ty7 ?su7 ?n8 ?ic8 ?ty8 ?su8 ?n9 ?ic9 ?ty9 ?su9 ?n10 ?ic10 ?ty10 ?su10 ?n11 ?ic11 ?ty11 ?su11 ?n12 ?ic12 ?ty12 ?su12 ?pg ?hd ?po ?sa ?mk ?kc ?nR ?nN ?nL ?rd ?ga ?cm ?rc ?fi ?zL ?zM ?zR ?lR ?vR ?szR ?b_len ?b_int ?b_abs ?b_range ?b_list ?b_tuple ?b_enumerate ?b_isinstance ?b_str ?b_set ?b_all ?b_repr ?b_sorted ?b_min ?b_ValueError ?tab ?hCd ?nP ?hP ?tab2 ?hCd2 ?nP2 ?hP2 ?npt
    (case aIW => k_is)
    (case aAW => k_is)
    (case aAD => k_is)
    (case aFA => k_is)
    (case aLI => k_is)
    (case aPN => k_is)
    (case aD => k_is)
    (case aPK => k_is)
    (case aBA => k_is)
    (case aWO => k_is)
    (case aBE => k_is)
    (case aMI => k_is)
    (case aRO => k_is)
    (case aRS => k_is)
    (case aLT => k_is)
    (case aHE => k_is)
    (case aLQ => k_is)
    (case aOD => k_is)
    (case aER => k_is)
    (case aDU => k_is)
    (case aBT => k_is)
    (case aSP => k_is)
    (case aPR => k_is)
    (case aLW => k_is)
    (case aC => k_is)
    (case e_NoClass => k_is)
    (case aNI => k_is)
    (case aIN => k_is)
    (case aLN => k_is)
    (case aWR => k_is)
    (case cm => k_is)
    (case rc => k_is)
    (case e_LeaveError => k_is)
    (case e_NoFunction => k_is)
    (case e_NoProgram => k_is)
    (case e_NoName => k_is)
    (case e_NoCase => k_is)
    (case e_TooMany => k_is)
    (case e_NoText => k_is)
    (case e_NoAct => k_is)
    (case e_NoRecord => k_is)
    (case e_Barred => k_is)
    (case e_Unlike => k_is)
    (case e_NoRow => k_is)
    (case lIW => k_is)
    (case cIW => k_is)
    (case kIW => k_is)
    (case lAW => k_is)
    (case cAW => k_is)
    (case kAW => k_is)
    (case lAD => k_is)
    (case cAD => k_is)
    (case kAD => k_is)
    (case lFA => k_is)
    (case cFA => k_is)
    (case kFA => k_is)
    (case lLI => k_is)
    (case cLI => k_is)
    (case kLI => k_is)
    (case lPN => k_is)
    (case cPN => k_is)
    (case kPN => k_is)
    (case lD => k_is)
    (case cD => k_is)
    (case kD => k_is)
    (case lPK => k_is)
    (case cPK => k_is)
    (case kPK => k_is)
    (case lBA => k_is)
    (case cBA => k_is)
    (case kBA => k_is)
    (case lWO => k_is)
    (case cWO => k_is)
    (case kWO => k_is)
    (case lBE => k_is)
    (case cBE => k_is)
    (case kBE => k_is)
    (case lMI => k_is)
    (case cMI => k_is)
    (case kMI => k_is)
    (case lRO => k_is)
    (case cRO => k_is)
    (case kRO => k_is)
    (case lRS => k_is)
    (case cRS => k_is)
    (case kRS => k_is)
    (case lLT => k_is)
    (case cLT => k_is)
    (case kLT => k_is)
    (case lHE => k_is)
    (case cHE => k_is)
    (case kHE => k_is)
    (case lLQ => k_is)
    (case cLQ => k_is)
    (case kLQ => k_is)
    (case lOD => k_is)
    (case cOD => k_is)
    (case kOD => k_is)
    (case lER => k_is)
    (case cER => k_is)
    (case kER => k_is)
    (case lDU => k_is)
    (case cDU => k_is)
    (case kDU => k_is)
    (case lBT => k_is)
    (case cBT => k_is)
    (case kBT => k_is)
    (case lSP => k_is)
    (case cSP => k_is)
    (case kSP => k_is)
    (case lPR => k_is)
    (case cPR => k_is)
    (case kPR => k_is)
    (case lLW => k_is)
    (case cLW => k_is)
    (case kLW => k_is)
    (case lIN => k_is)
    (case cIN => k_is)
    (case kIN => k_is)
    (case lMA => k_is)
    (case cMA => k_is)
    (case kMA => k_is)
    (case lLN => k_is)
    (case cLN => k_is)
    (case kLN => k_is)
    (case lWR => k_is)
    (case cWR => k_is)
    (case kWR => k_is)
    (case lNI => k_is)
    (case cNI => k_is)
    (case kNI => k_is)
    (case iIN => k_is)
    (case iLN => k_is)
    (case iWR => k_is)
    (case tNI => k_is)
    (case oK_z => k_is)
    (case oR_z => decide +kernel)
    (case z_sa => k_is)
    (case z_be => k_is)
    (case z_ty => k_is)
    (case z_kp => k_is)
    (case z_re => k_is)
    (case z_pl => k_is)
    (case z_ga => k_is)
    (case z_gg => k_is)
    (case z_hd => k_is)
    (case z_cl => k_is)
    (case x_gs => k_is)
    (case x_tk => k_is)
    (case z_ob => k_is)
    (case y_be => k_is)
    (case y_hd => k_is)
    (case y_ty => k_is)
    (case y_su => k_is)
    (case z_ve => k_is)
    (case n2 => decide)
    (case ic2 => k_is)
    (case ty2 => k_is)
    (case su2 => k_is)
    (case n3 => decide)
    (case ic3 => k_is)
    (case ty3 => k_is)
    (case su3 => k_is)
    (case n4 => decide)
    (case ic4 => k_is)
    (case ty4 => k_is)
    (case su4 => k_is)
    (case n5 => decide)
    (case ic5 => k_is)
    (case ty5 => k_is)
    (case su5 => k_is)
    (case n6 => decide)
    (case ic6 => k_is)
    (case ty6 => k_is)
    (case su6 => k_is)
    (case n7 => decide)
    (case ic7 => k_is)
    (case ty7 => k_is)
    (case su7 => k_is)
    (case n8 => decide)
    (case ic8 => k_is)
    (case ty8 => k_is)
    (case su8 => k_is)
    (case n9 => decide)
    (case ic9 => k_is)
    (case ty9 => k_is)
    (case su9 => k_is)
    (case n10 => decide)
    (case ic10 => k_is)
    (case ty10 => k_is)
    (case su10 => k_is)
    (case n11 => decide)
    (case ic11 => k_is)
    (case ty11 => k_is)
    (case su11 => k_is)
    (case n12 => decide)
    (case ic12 => k_is)
    (case ty12 => k_is)
    (case su12 => k_is)
    (case pg => k_is)
    (case hd => k_is)
    (case po => k_is)
    (case sa => k_is)
    (case mk => k_is)
    (case kc => k_is)
    (case nR => k_is)
    (case nN => k_is)
    (case nL => k_is)
    (case rd => k_is)
    (case ga => k_is)
    (case fi => k_is)
    (case zL => k_is)
    (case zM => k_is)
    (case zR => k_is)
    (case lR => k_is)
    (case vR => decide +kernel)
    (case szR => decide +kernel)
    (case b_len => k_is)
    (case b_int => k_is)
    (case b_abs => k_is)
    (case b_range => k_is)
    (case b_list => k_is)
    (case b_tuple => k_is)
    (case b_enumerate => k_is)
    (case b_isinstance => k_is)
    (case b_str => k_is)
    (case b_set => k_is)
    (case b_all => k_is)
    (case b_repr => k_is)
    (case b_sorted => k_is)
    (case b_min => k_is)
    (case b_ValueError => k_is)
    (case tab => with_unfolding_all rfl)
    (case hCd => kernel_rfl)
    (case nP => kernel_rfl)
    (case hP => exact PySem.W.km_tabs_of YY _ (by k_mem))
    (case tab2 => with_unfolding_all rfl)
    (case hCd2 => kernel_rfl)
    (case nP2 => kernel_rfl)
    (case hP2 => exact PySem.W.km_tabs_of YY _ (by k_mem))
    (case npt => decide)
end
