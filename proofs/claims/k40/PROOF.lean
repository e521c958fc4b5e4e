import PyProof.Rows.All
import Wide.All
import OpenK.AllK
import Wide.FinOn
import HandS.ForMost
import HandS.Style
import HandS.TupAny
import HandS.Strs
import HandS.IsInst
import HandS.StrMore
import HandS.Walk
import KE.GoesEnum
import KE.GoesMore
import HandS.Star
import HandS.Conv
import HandS.ClsMeth
import HandS.MakeKw
import PyProof.ReprLen
import HandS.Set
import HandS.SetTxt0
import PyProof.Rows.SortShellAny
import HandS.TupSets
import KE.KSortTupG
import PyProof.TupleOfSeq
import HandS.ExcIs
import HandS.ExcField
import HandS.ExcValue
import HandS.ExcInit
import KE.KIsAll
import HandS.Lambda
import HandS.WordsExc
import HandS.More
import HandS.OwnEq
import PyProof.InstNe
import HandS.Deep
import HandS.EndTab
import KE.KNestM
import HandS.Nested
import KE.KSuper
import KE.RegKSuper
import HandS.Dict
import HandS.DictComp
import KE.KDictCopyH
import KE.SortKeyed
import HandS.SortKw
import PyProof.P3In
import HandS.Flow
import HandS.TupLen
import HandS.WideBits
import KE.SortData
import PySem.Challenge.RW_whatleaves_k40_least_sets_kept
section
set_option autoImplicit true
namespace K2
open PySem

abbrev Row := Str × List Str
def barredL : List String := ["pass", "raise", "from", "none", "again", "return", "returns", "break", "call", "handling", "else", "either", "or", "loop", "try", "except", "as", "finally", "with", "quiet", "class", "def", "error", "vacant"]
def barred : List Str := barredL.map Str.ofString
def resd : List Str := barred.take 22
def sErr : Str := Str.ofString "error"
def sVac : Str := Str.ofString "vacant"
def codes (x : Str) : List Nat := x.cps.toList
def txt (l : List Nat) : Str := ⟨l.toArray⟩
theorem codes_txt (l : List Nat) : codes (txt l) = l := by simp [codes, txt]
theorem txt_codes (x : Str) : txt (codes x) = x := by cases x; simp [codes, txt]
theorem codes_inj {x y : Str} (h : codes x = codes y) : x = y := by rw [← txt_codes x, ← txt_codes y, h]

/-- a text of small letters -/
def Low (l : List Nat) : Prop := ∀ c ∈ l, 97 ≤ c ∧ c ≤ 122
/-- a word of the document -/
structure VW (x : Str) : Prop where
  low : Low (codes x)
  ne : codes x ≠ []
  le : (codes x).length ≤ 8
  nr : x ∉ resd
theorem vw_err : VW sErr := ⟨by unfold Low; decide +kernel, by decide +kernel, by decide +kernel, by decide +kernel⟩
theorem vw_vac : VW sVac := ⟨by unfold Low; decide +kernel, by decide +kernel, by decide +kernel, by decide +kernel⟩
theorem err_ne_vac : sErr ≠ sVac := by decide +kernel
theorem mem_resd {x : Str} (h : x ∈ resd) : x ∈ barred := List.mem_of_mem_take h
theorem err_barred : sErr ∈ barred := by decide +kernel
theorem vac_barred : sVac ∈ barred := by decide +kernel

/-! ### words -/
def wordAt (base : List Nat) (spot : Nat) (sign : Nat) : List Nat := base.take spot ++ [sign] ++ base.drop spot
def signAt (first hop k : Nat) : Nat := 97 + (first + hop * k) % 26
def finalAt (base : List Nat) (spot first hop k : Nat) : List Nat :=
  let w := wordAt base spot (signAt first hop k)
  w ++ (if 26 ≤ k then [113] else if txt w ∈ barred then [122] else [])
theorem barred_end : ∀ b ∈ barred, ∀ c, (codes b).getLast? = some c → c ≠ 113 ∧ c ≠ 122 := by
  have h : ∀ b ∈ barred, (codes b).getLast? ≠ some 113 ∧ (codes b).getLast? ≠ some 122 := by decide +kernel
  intro b hb c hc
  have := h b hb
  refine ⟨fun e => this.1 (by rw [hc, e]), fun e => this.2 (by rw [hc, e])⟩
theorem low_wordAt (hb : Low base) (h1 : 97 ≤ sign) (h2 : sign ≤ 122) : Low (wordAt base spot sign) := by
  intro c hc
  unfold wordAt at hc
  rcases List.mem_append.mp hc with hc | hc
  · rcases List.mem_append.mp hc with hc | hc
    · exact hb c (List.mem_of_mem_take hc)
    · have : c = sign := by simpa using hc
      omega
  · exact hb c (List.mem_of_mem_drop hc)
theorem len_wordAt (base : List Nat) (spot sign : Nat) : (wordAt base spot sign).length = base.length + 1 := by
  unfold wordAt
  simp only [List.length_append, List.length_take, List.length_drop, List.length_singleton]
  omega
theorem sign_lo (f h k : Nat) : 97 ≤ signAt f h k ∧ signAt f h k ≤ 122 := by
  unfold signAt; omega
theorem sign_ne {f hop i j : Nat} (hh : hop ∈ [1, 3, 5, 7, 9, 11]) (h1 : i < j) (h2 : j < i + 26) : signAt f hop i ≠ signAt f hop j := by
  unfold signAt
  simp only [List.mem_cons, List.not_mem_nil, or_false] at hh
  rcases hh with rfl | rfl | rfl | rfl | rfl | rfl <;> omega
theorem word_ne {base : List Nat} {spot s t : Nat} (h : s ≠ t) : wordAt base spot s ≠ wordAt base spot t := by
  unfold wordAt
  intro e
  rw [List.append_assoc, List.append_assoc] at e
  have := List.append_cancel_left e
  have h2 : s = t := by simpa using (List.cons.inj this).1
  exact h h2
theorem vw_final {base : List Nat} (hb : Low base) (hl : base.length ≤ 6) (spot f hop k : Nat) : VW (txt (finalAt base spot f hop k)) ∧ txt (finalAt base spot f hop k) ∉ barred := by
  have hw := low_wordAt (spot := spot) hb (sign_lo f hop k).1 (sign_lo f hop k).2
  have hlen := len_wordAt base spot (signAt f hop k)
  have nb : txt (finalAt base spot f hop k) ∉ barred := by
    intro hm
    have he := barred_end _ hm
    rw [codes_txt] at he
    by_cases h1 : 26 ≤ k
    · unfold finalAt at he
      simp only [h1, if_true] at he
      exact (he 113 (by simp)).1 rfl
    · by_cases h2 : txt (wordAt base spot (signAt f hop k)) ∈ barred
      · unfold finalAt at he
        simp only [h1, if_false, h2, if_true] at he
        exact (he 122 (by simp)).2 rfl
      · unfold finalAt at hm
        simp only [h1, if_false, h2, if_false, List.append_nil] at hm
  refine ⟨⟨?_, ?_, ?_, fun h => nb (mem_resd h)⟩, nb⟩
  · rw [codes_txt]
    unfold finalAt
    intro c hc
    rcases List.mem_append.mp hc with hc | hc
    · exact hw c hc
    · split at hc
      · have : c = 113 := by simpa using hc
        omega
      · split at hc
        · have : c = 122 := by simpa using hc
          omega
        · cases hc
  · rw [codes_txt]
    intro e
    have : (finalAt base spot f hop k).length = 0 := by rw [e]; rfl
    unfold finalAt at this
    rw [List.length_append, hlen] at this
    omega
  · rw [codes_txt]
    unfold finalAt
    rw [List.length_append, hlen]
    split
    · show base.length + 1 + 1 ≤ 8; omega
    · split
      · show base.length + 1 + 1 ≤ 8; omega
      · show base.length + 1 + 0 ≤ 8; omega
theorem final_ne {base : List Nat} {spot f hop i j : Nat} (hh : hop ∈ [1, 3, 5, 7, 9, 11]) (h1 : i < j) (hj : j < 32) : finalAt base spot f hop i ≠ finalAt base spot f hop j := by
  have li := len_wordAt base spot (signAt f hop i)
  have lj := len_wordAt base spot (signAt f hop j)
  intro e
  have key : ∀ {w1 w2 : List Nat} {a b : Nat}, w1 ++ [a] = w2 ++ [b] → w1 = w2 ∧ a = b := by
    intro w1 w2 a b h
    have := List.append_inj' h rfl
    exact ⟨this.1, by simpa using this.2⟩
  unfold finalAt at e
  by_cases c1 : 26 ≤ i
  · have c2 : 26 ≤ j := by omega
    simp only [c1, c2, if_true] at e
    exact word_ne (sign_ne hh h1 (by omega)) (key e).1
  · by_cases c2 : 26 ≤ j
    · simp only [c1, if_false, c2, if_true] at e
      by_cases c3 : txt (wordAt base spot (signAt f hop i)) ∈ barred
      · simp only [c3, if_true] at e
        exact absurd (key e).2 (by decide)
      · simp only [c3, if_false, List.append_nil] at e
        have := congrArg List.length e
        rw [List.length_append, li, lj] at this
        simp at this
    · have hs : wordAt base spot (signAt f hop i) ≠ wordAt base spot (signAt f hop j) := word_ne (sign_ne hh h1 (by omega))
      simp only [c1, if_false, c2] at e
      by_cases c3 : txt (wordAt base spot (signAt f hop i)) ∈ barred
      · by_cases c4 : txt (wordAt base spot (signAt f hop j)) ∈ barred
        · simp only [c3, c4, if_true] at e
          exact hs (key e).1
        · simp only [c3, c4, if_true, if_false, List.append_nil] at e
          have := congrArg List.length e
          rw [List.length_append, li, lj] at this
          simp at this
      · by_cases c4 : txt (wordAt base spot (signAt f hop j)) ∈ barred
        · simp only [c3, c4, if_true, if_false, List.append_nil] at e
          have := congrArg List.length e
          rw [List.length_append, li, lj] at this
          simp at this
        · simp only [c3, c4, if_false, List.append_nil] at e
          exact hs e
def finals (base : List Nat) (spot f hop n : Nat) : List Str := (List.range n).map fun k => txt (finalAt base spot f hop k)
/-- what words are for the law: so many unlike words, none of them error or vacant -/
structure Words (ws : List Str) : Prop where
  vw : ∀ x ∈ ws, VW x
  nb : ∀ x ∈ ws, x ∉ barred
  nd : ws.Nodup
theorem nodup_of_inj {α : Type} {f : Nat → α} {n : Nat} (h : ∀ i j, i < j → j < n → f i ≠ f j) : ((List.range n).map f).Nodup := by
  unfold List.Nodup
  rw [List.pairwise_map]
  refine List.Pairwise.imp_of_mem ?_ (List.pairwise_lt_range (n := n))
  intro a b _ hb hab
  exact h a b hab (List.mem_range.mp hb)
theorem words_finals {base : List Nat} (hb : Low base) (hl : base.length ≤ 6) {hop : Nat} (hh : hop ∈ [1, 3, 5, 7, 9, 11]) {n : Nat} (hn : n ≤ 32) (spot f : Nat) : Words (finals base spot f hop n) := by
  refine ⟨fun x hx => ?_, fun x hx => ?_, ?_⟩
  · obtain ⟨k, _, rfl⟩ := List.mem_map.mp hx
    exact (vw_final hb hl spot f hop k).1
  · obtain ⟨k, _, rfl⟩ := List.mem_map.mp hx
    exact (vw_final hb hl spot f hop k).2
  · refine nodup_of_inj fun i j h1 h2 e => final_ne (base := base) (spot := spot) (f := f) hh h1 (by omega) ?_
    have := congrArg codes e
    rwa [codes_txt, codes_txt] at this
theorem barred_two : ∀ b ∈ barred, 2 ≤ (codes b).length ∧ (codes b)[0]? ≠ (codes b)[1]? := by decide +kernel
def reps (c n : Nat) : List Str := (List.range n).map fun k => txt (List.replicate (k + 1) c)
theorem words_reps {c : Nat} (h1 : 97 ≤ c) (h2 : c ≤ 122) {n : Nat} (hn : n ≤ 8) : Words (reps c n) := by
  have nb : ∀ k, txt (List.replicate (k + 1) c) ∉ barred := by
    intro k hm
    have := barred_two _ hm
    rw [codes_txt] at this
    rw [List.length_replicate] at this
    apply this.2
    rw [List.getElem?_replicate, List.getElem?_replicate, if_pos (by omega), if_pos (by omega)]
  refine ⟨fun x hx => ?_, fun x hx => ?_, ?_⟩
  · obtain ⟨k, hk, rfl⟩ := List.mem_map.mp hx
    have hk := List.mem_range.mp hk
    refine ⟨?_, ?_, ?_, fun h => nb k (mem_resd h)⟩
    · rw [codes_txt]
      intro d hd
      have := List.eq_of_mem_replicate hd
      omega
    · rw [codes_txt]
      intro e
      have := congrArg List.length e
      rw [List.length_replicate] at this
      simp at this
    · rw [codes_txt, List.length_replicate]
      omega
  · obtain ⟨k, hk, rfl⟩ := List.mem_map.mp hx
    exact nb k
  · refine nodup_of_inj fun i j h1 h2 e => ?_
    have := congrArg (fun x => (codes x).length) e
    simp only [codes_txt, List.length_replicate] at this
    omega
theorem Words.rev {ws : List Str} (h : Words ws) : Words ws.reverse := ⟨fun x hx => h.vw x (List.mem_reverse.mp hx), fun x hx => h.nb x (List.mem_reverse.mp hx), by
  have := h.nd
  unfold List.Nodup at *
  rw [List.pairwise_reverse]
  exact this.imp fun h e => h e.symm⟩
end K2
end
section
set_option autoImplicit true
namespace K2
open PySem

def base0 : List Str := [sErr, sVac]
structure RowOk (known : List Str) (r : Row) : Prop where
  vw : VW r.1
  new : r.1 ∉ known
  ne : r.2 ≠ []
  nd : r.2.Nodup
  sub : ∀ b ∈ r.2, b ∈ known
def knownAt (rs : List Row) (i : Nat) : List Str := base0 ++ (rs.take i).map (·.1)
def Good (rs : List Row) : Prop := ∀ (i : Nat) (r : Row), rs[i]? = some r → RowOk (knownAt rs i) r
theorem good_nil : Good [] := fun i r h => by simp at h
theorem good_snoc {rs : List Row} {r : Row} (g : Good rs) (h : RowOk (base0 ++ rs.map (·.1)) r) : Good (rs ++ [r]) := by
  intro i q hq
  by_cases hi : i < rs.length
  · rw [List.getElem?_append_left hi] at hq
    have := g i q hq
    unfold knownAt at *
    rw [List.take_append_of_le_length (by omega)]
    exact this
  · have hi2 : i = rs.length := by
      have := (List.getElem?_eq_some_iff.mp hq).1
      rw [List.length_append, List.length_singleton] at this
      omega
    subst hi2
    rw [List.getElem?_append_right (Nat.le_refl _), Nat.sub_self] at hq
    simp at hq
    subst hq
    unfold knownAt
    rw [List.take_append_of_le_length (Nat.le_refl _), List.take_length]
    exact h
theorem vw_base0 : ∀ x ∈ base0, VW x := by
  intro x hx
  unfold base0 at hx
  rcases List.mem_cons.mp hx with rfl | hx
  · exact vw_err
  · have : x = sVac := by simpa using hx
    subst this
    exact vw_vac
theorem Good.vw_known {rs : List Row} (g : Good rs) (i : Nat) : ∀ x ∈ knownAt rs i, VW x := by
  intro x hx
  rcases List.mem_append.mp hx with hx | hx
  · exact vw_base0 x hx
  · obtain ⟨r, hr, rfl⟩ := List.mem_map.mp hx
    obtain ⟨j, hj⟩ := List.getElem?_of_mem (List.mem_of_mem_take hr)
    exact (g j r hj).vw
theorem knownAt_len {rs : List Row} {i : Nat} (h : i ≤ rs.length) : (knownAt rs i).length = i + 2 := by
  unfold knownAt base0
  simp [List.length_take]
  omega
theorem knownAt_succ {rs : List Row} {i : Nat} {r : Row} (h : rs[i]? = some r) : knownAt rs (i + 1) = knownAt rs i ++ [r.1] := by
  unfold knownAt
  rw [List.take_add_one, h]
  simp
theorem base0_nd : base0.Nodup := by
  unfold base0
  simp [err_ne_vac]
theorem Good.nodup {rs : List Row} (g : Good rs) : ∀ i, i ≤ rs.length → (knownAt rs i).Nodup
  | 0, _ => by simpa [knownAt] using base0_nd
  | i + 1, h => by
    have hi : rs[i]? = some rs[i] := List.getElem?_eq_getElem (by omega)
    rw [knownAt_succ hi]
    refine List.nodup_append.mpr ⟨g.nodup i (by omega), by simp, ?_⟩
    intro a ha b hb e
    have : b = rs[i].1 := by simpa using hb
    subst this
    subst e
    exact (g i _ hi).new ha
/-- the rows of words, with any bases among those known -/
def namesOf (rs : List Row) : List Str := rs.map (·.1)
structure Sub1 (r q : Row) : Prop where
  nm : q.1 = r.1
  sl : q.2.Sublist r.2
  ne : q.2 ≠ []
theorem good_sub {rs qs : List Row} (g : Good rs) (hl : qs.length = rs.length) (h : ∀ (i : Nat) (r q : Row), rs[i]? = some r → qs[i]? = some q → Sub1 r q) : Good qs := by
  have en : ∀ i, (qs.take i).map (·.1) = (rs.take i).map (·.1) := by
    intro i
    apply List.ext_getElem?
    intro j
    rw [List.getElem?_map, List.getElem?_map, List.getElem?_take, List.getElem?_take]
    split
    · by_cases hj : j < rs.length
      · have h1 : rs[j]? = some rs[j] := List.getElem?_eq_getElem hj
        have h2 : qs[j]? = some qs[j] := List.getElem?_eq_getElem (by omega)
        rw [h1, h2]
        simp [(h j _ _ h1 h2).nm]
      · rw [List.getElem?_eq_none (by omega), List.getElem?_eq_none (by omega)]
    · rfl
  intro i q hq
  have hi : i < rs.length := by
    have := (List.getElem?_eq_some_iff.mp hq).1
    omega
  have h1 : rs[i]? = some rs[i] := List.getElem?_eq_getElem hi
  have k := h i _ _ h1 hq
  have R := g i _ h1
  unfold knownAt at *
  rw [en i]
  refine ⟨by rw [k.nm]; exact R.vw, by rw [k.nm]; exact R.new, k.ne, R.nd.sublist k.sl, fun b hb => R.sub b (k.sl.subset hb)⟩

/-! ### what is within what -/
abbrev Tb := List (Str × List Str)
def look : Tb → Str → List Str
  | [], _ => []
  | (k, u) :: t, x => if k = x then u else look t x
def keys (t : Tb) : List Str := t.map (·.1)
def insK (ks : List Str) (x : Str) : List Str := if x ∈ ks then ks else ks ++ [x]
def mergeU (m us : List Str) : List Str := m ++ us.filter fun u => decide (u ∉ m)
def lineL (t : Tb) (m : List Str) (bs : List Str) : List Str := bs.foldl (fun m b => mergeU m (look t b)) m
def lineOf (t : Tb) (r : Row) : List Str := lineL t [r.1] r.2
def t0 : Tb := [(sErr, [sErr]), (sVac, [sVac, sErr])]
def stepT (t : Tb) (r : Row) : Tb := t ++ [(r.1, lineOf t r)]
def ups (rs : List Row) : Tb := rs.foldl stepT t0
theorem ups_succ {rs : List Row} {i : Nat} {r : Row} (h : rs[i]? = some r) : ups (rs.take (i + 1)) = stepT (ups (rs.take i)) r := by
  unfold ups
  rw [List.take_add_one, h]
  simp
theorem ups_snoc (rs : List Row) (r : Row) : ups (rs ++ [r]) = stepT (ups rs) r := by unfold ups; simp
theorem keys_ups (rs : List Row) : keys (ups rs) = base0 ++ rs.map (·.1) := by
  have h : ∀ (rs : List Row) (t : Tb), keys (rs.foldl stepT t) = keys t ++ rs.map (·.1) := by
    intro rs
    induction rs with
    | nil => intro t; simp
    | cons r rs ih =>
      intro t
      rw [List.foldl_cons, ih]
      simp [keys, stepT]
  exact h rs t0
theorem keys_ups_take (rs : List Row) (i : Nat) : keys (ups (rs.take i)) = knownAt rs i := keys_ups _
theorem foldl_insK : ∀ (us ks : List Str), us.Nodup → us.foldl insK ks = mergeU ks us
  | [], ks, _ => by simp [mergeU]
  | u :: us, ks, h => by
    have h1 := List.nodup_cons.mp h
    rw [List.foldl_cons, foldl_insK us _ h1.2]
    unfold insK mergeU
    by_cases hu : u ∈ ks
    · rw [if_pos hu, List.filter_cons]
      simp [hu]
    · rw [if_neg hu, List.filter_cons]
      simp only [hu, not_false_eq_true, decide_true, if_true]
      rw [List.append_assoc, List.singleton_append]
      congr 2
      apply List.filter_congr
      intro x hx
      have : x ≠ u := fun e => h1.1 (e ▸ hx)
      simp [this]
structure LineOk (pre : List Str) (x : Str) (us : List Str) : Prop where
  nd : us.Nodup
  self : x ∈ us
  err : sErr ∈ us
  sub : ∀ u ∈ us, u = x ∨ u ∈ pre
def TOk (t : Tb) : Prop := ∀ a x us b, t = a ++ (x, us) :: b → LineOk (keys a) x us ∧ x ∉ keys a
theorem tok_t0 : TOk t0 := by
  intro a x us b h
  unfold t0 at h
  rcases a with _ | ⟨p, a⟩
  · simp at h
    obtain ⟨⟨rfl, rfl⟩, _⟩ := h
    exact ⟨⟨by simp, by simp, by simp, by simp⟩, by simp [keys]⟩
  · rcases a with _ | ⟨q, a⟩
    · simp at h
      obtain ⟨rfl, ⟨rfl, rfl⟩, _⟩ := h
      refine ⟨⟨by simp [err_ne_vac.symm], by simp, by simp, ?_⟩, ?_⟩
      · intro u hu
        simp [keys] at *
        exact hu
      · simp [keys, err_ne_vac.symm]
    · simp at h
theorem look_mem : ∀ {t : Tb} {x : Str}, x ∈ keys t → ∃ a b, t = a ++ (x, look t x) :: b
  | [], x, h => by simp [keys] at h
  | (k, u) :: t, x, h => by
    by_cases e : k = x
    · subst e
      refine ⟨[], t, ?_⟩
      simp [look]
    · have h2 : x ∈ keys t := by
        unfold keys at *
        rcases List.mem_cons.mp h with e2 | h2
        · exact absurd e2.symm e
        · exact h2
      obtain ⟨a, b, hab⟩ := look_mem h2
      refine ⟨(k, u) :: a, b, ?_⟩
      simp only [look, if_neg e, List.cons_append]
      rw [← hab]
theorem keys_mid {a b : Tb} {x : Str} {us : List Str} : keys (a ++ (x, us) :: b) = keys a ++ x :: keys b := by simp [keys]
theorem TOk.line {t : Tb} (T : TOk t) {x : Str} (h : x ∈ keys t) : (look t x).Nodup ∧ x ∈ look t x ∧ sErr ∈ look t x ∧ ∀ u ∈ look t x, u ∈ keys t := by
  obtain ⟨a, b, e⟩ := look_mem h
  obtain ⟨L, _⟩ := T a x (look t x) b e
  refine ⟨L.nd, L.self, L.err, fun u hu => ?_⟩
  rw [e, keys_mid]
  rcases L.sub u hu with rfl | hu
  · simp
  · exact List.mem_append_left _ hu
theorem TOk.nodup : ∀ {t : Tb}, TOk t → (keys t).Nodup := by
  intro t T
  have h : ∀ (b a : Tb), t = a ++ b → (keys a).Nodup → (keys t).Nodup := by
    intro b
    induction b with
    | nil => intro a e h; rw [e, List.append_nil]; exact h
    | cons p b ih =>
      intro a e h
      obtain ⟨x, us⟩ := p
      refine ih (a ++ [(x, us)]) (by rw [e]; simp) ?_
      have := (T a x us b e).2
      unfold keys at *
      rw [List.map_append]
      refine List.nodup_append.mpr ⟨h, by simp, ?_⟩
      intro c hc d hd q
      have : d = x := by simpa using hd
      subst this
      subst q
      contradiction
  exact h t [] (by simp) (by simp [keys])
theorem split_uniq {a b c d : Tb} {x : Str} {us vs : List Str} (h : a ++ (x, us) :: b = c ++ (x, vs) :: d) (ha : x ∉ keys a) (hc : x ∉ keys c) : a = c := by
  induction a generalizing c with
  | nil =>
    rcases c with _ | ⟨q, c⟩
    · rfl
    · simp at h
      exfalso
      apply hc
      rw [← h.1]
      simp [keys]
  | cons p a ih =>
    rcases c with _ | ⟨q, c⟩
    · simp at h
      exfalso
      apply ha
      rw [h.1]
      simp [keys]
    · simp only [List.cons_append, List.cons.injEq] at h
      rw [h.1, ih h.2 (fun m => ha (by unfold keys at *; exact List.mem_cons_of_mem _ m)) (fun m => hc (by unfold keys at *; exact List.mem_cons_of_mem _ m))]
theorem TOk.back {t : Tb} (T : TOk t) {x y : Str} (hx : x ∈ keys t) (hy : y ∈ look t x) (ne : y ≠ x) : x ∉ look t y := by
  intro hxy
  obtain ⟨a, b, e⟩ := look_mem hx
  obtain ⟨L, hn⟩ := T a x _ b e
  have hya : y ∈ keys a := (L.sub y hy).resolve_left ne
  have hyt : y ∈ keys t := by rw [e, keys_mid]; exact List.mem_append_left _ hya
  obtain ⟨c, d, e2⟩ := look_mem hyt
  obtain ⟨M, hm⟩ := T c y _ d e2
  have hxc : x ∈ keys c := (M.sub x hxy).resolve_left ne.symm
  -- y stands in a, so c is a beginning of a
  obtain ⟨a1, a2, e3⟩ := look_mem hya
  have e4 : t = a1 ++ (y, look a y) :: (a2 ++ (x, look t x) :: b) := by
    rw [List.append_cons, ← List.append_assoc] 
    conv => lhs; rw [e, e3]
    simp
  have hm2 : y ∉ keys a1 := (T a1 y _ _ e4).2
  have : c = a1 := split_uniq (e2.symm.trans e4) hm hm2
  subst this
  apply hn
  rw [e3, keys_mid]
  exact List.mem_append_left _ hxc
theorem mergeU_ok {t : Tb} {m us : List Str} (hm : m.Nodup) (hu : us.Nodup) : (mergeU m us).Nodup := by
  unfold mergeU
  refine List.nodup_append.mpr ⟨hm, hu.filter _, ?_⟩
  intro a ha b hb e
  subst e
  have := (List.mem_filter.mp hb).2
  simp at this
  exact this ha
theorem lineL_ok {t : Tb} (T : TOk t) {x : Str} : ∀ (bs m : List Str), (∀ b ∈ bs, b ∈ keys t) → m.Nodup → (∀ u ∈ m, u = x ∨ u ∈ keys t) →
    (lineL t m bs).Nodup ∧ (∀ u ∈ lineL t m bs, u = x ∨ u ∈ keys t) ∧ (∀ u ∈ m, u ∈ lineL t m bs) ∧ (bs ≠ [] → sErr ∈ lineL t m bs)
  | [], m, _, h1, h2 => ⟨h1, h2, fun u hu => hu, fun h => absurd rfl h⟩
  | b :: bs, m, hb, h1, h2 => by
    have L := T.line (hb b List.mem_cons_self)
    have n1 := mergeU_ok (t := t) h1 L.1
    have s1 : ∀ u ∈ mergeU m (look t b), u = x ∨ u ∈ keys t := by
      intro u hu
      rcases List.mem_append.mp hu with hu | hu
      · exact h2 u hu
      · exact .inr (L.2.2.2 u (List.mem_filter.mp hu).1)
    obtain ⟨q1, q2, q3, q4⟩ := lineL_ok T bs (mergeU m (look t b)) (fun c hc => hb c (List.mem_cons_of_mem _ hc)) n1 s1
    refine ⟨q1, q2, fun u hu => q3 u (List.mem_append_left _ hu), fun _ => ?_⟩
    apply q3
    by_cases he : sErr ∈ m
    · exact List.mem_append_left _ he
    · exact List.mem_append_right _ (List.mem_filter.mpr ⟨L.2.2.1, by simpa using he⟩)
theorem tok_step {t : Tb} (T : TOk t) {r : Row} (R : RowOk (keys t) r) : TOk (stepT t r) := by
  intro a x us b e
  unfold stepT at e
  rcases List.eq_nil_or_concat b with rfl | ⟨b', z, rfl⟩
  · have := List.append_inj' e rfl
    obtain ⟨rfl, e2⟩ := this
    simp at e2
    obtain ⟨rfl, rfl⟩ := e2
    have := lineL_ok T (x := r.1) r.2 [r.1] R.sub (by simp) (by simp)
    exact ⟨⟨this.1, this.2.2.1 _ (by simp), this.2.2.2 R.ne, this.2.1⟩, R.new⟩
  · rw [List.concat_eq_append, ← List.cons_append, ← List.append_assoc] at e
    have := List.append_inj' e rfl
    exact T a x us b' this.1
theorem tok_ups {rs : List Row} (g : Good rs) : ∀ i, i ≤ rs.length → TOk (ups (rs.take i))
  | 0, _ => by simpa [ups] using tok_t0
  | i + 1, h => by
    have hi : rs[i]? = some rs[i] := List.getElem?_eq_getElem (by omega)
    rw [ups_succ hi]
    refine tok_step (tok_ups g i (by omega)) ?_
    rw [keys_ups_take]
    exact g i _ hi
end K2
end
section
set_option Elab.async false
set_option maxRecDepth 100000
set_option linter.all false
namespace K2
open PySem L2
/-! ### the text by places -/
def top (i : Nat) : Stmt := PySem.Challenge.pw_whatleaves_k40_least_sets_kept.main.body.getD i (.Pass ⟨0, 0, 0, 0⟩)
abbrev sDraw : Stmt := top 24
/-! ### what the built-in names hold -/
structure Bi (mg : Str → Option Value) : Prop where
  len : mg "len" = none
  int : mg "int" = none
  abs : mg "abs" = none
  range : mg "range" = none
  list : mg "list" = none
  tuple : mg "tuple" = none
  enumerate : mg "enumerate" = none
  isinstance : mg "isinstance" = none
  str : mg "str" = none
  set : mg "set" = none
  all : mg "all" = none
  repr : mg "repr" = none
/-! ### the pen -/
def penO (c : Addr) (a l : Int) : HO := .lst [.ref c, .int a, .int l]
structure Pen (H : Hp) (p c : Addr) (ns : List Int) (n : Nat) : Prop where
  pen : ∃ a l : Int, H p = some (penO c a l) ∧ 0 ≤ a ∧ a ≤ n ∧ 0 ≤ l
  cells : H c = some (.lst (ns.map V.int))
  small : ns.length ≤ 63
def Keep (p : Addr) (H H' : Hp) : Prop := ∀ b o, H b = some o → b ≠ p → H' b = some o
theorem Keep.refl (p : Addr) (H : Hp) : Keep p H H := fun _ _ h _ => h
theorem Keep.trans {p : Addr} {H H1 H2 : Hp} (a : Keep p H H1) (b : Keep p H1 H2) : Keep p H H2 := fun c o h n => b c o (a c o h n) n
theorem Keep.new {p q : Addr} {H H1 : Hp} {o : HO} (k : Keep p H H1) (h : H q = none) : Keep p H (upd H1 q o) := fun b u hb n => by
  rw [upd_ne (ne_of_none hb h)]
  exact k b u hb n
theorem Keep.at {p : Addr} {H H1 : Hp} {o : HO} (k : Keep p H H1) : Keep p H (upd H1 p o) := fun b u hb n => by
  rw [upd_ne n]
  exact k b u hb n
theorem Pen.mono {H : Hp} {p c : Addr} {ns : List Int} {n m : Nat} (h : Pen H p c ns n) (e : n ≤ m) : Pen H p c ns m := by
  obtain ⟨a, l, h1, h2, h3, h4⟩ := h.pen
  exact ⟨⟨a, l, h1, h2, by omega, h4⟩, h.cells, h.small⟩
theorem Pen.ne {H : Hp} {p c : Addr} {ns : List Int} {n : Nat} (h : Pen H p c ns n) : c ≠ p := by
  obtain ⟨a, l, h1, _⟩ := h.pen
  refine ne_of h.cells h1 ?_
  unfold penO
  intro e
  injection e with e
  cases ns with
  | nil => simp at e
  | cons n ns => simp at e
/-- the pen behind a new object -/
theorem Pen.new {H : Hp} {p c q : Addr} {ns : List Int} {n : Nat} {o : HO} (h : Pen H p c ns n) (hq : H q = none) : Pen (upd H q o) p c ns n := by
  obtain ⟨a, l, h1, h2, h3, h4⟩ := h.pen
  exact ⟨⟨a, l, by rw [upd_ne (ne_of_none h1 hq)]; exact h1, h2, h3, h4⟩, by rw [upd_ne (ne_of_none h.cells hq)]; exact h.cells, h.small⟩
/-- the pen behind a store elsewhere -/
theorem Pen.upd' {H : Hp} {p c q : Addr} {ns : List Int} {n : Nat} {o : HO} (h : Pen H p c ns n) (h1 : p ≠ q) (h2 : c ≠ q) : Pen (upd H q o) p c ns n := by
  obtain ⟨a, l, g1, g2, g3, g4⟩ := h.pen
  exact ⟨⟨a, l, by rw [upd_ne h1]; exact g1, g2, g3, g4⟩, by rw [upd_ne h2]; exact h.cells, h.small⟩
theorem Pen.set {H : Hp} {p c : Addr} {ns : List Int} {n m : Nat} (h : Pen H p c ns n) {a l : Int} (h1 : 0 ≤ a) (h2 : a ≤ m) (h3 : 0 ≤ l) : Pen (upd H p (penO c a l)) p c ns m :=
  ⟨⟨a, l, upd_same, h1, h2, h3⟩, by rw [upd_ne h.ne]; exact h.cells, h.small⟩

def spDraw : Sp := fun vs H Q _ => ∃ (p c : Addr) (ns : List Int) (n : Nat) (m : Int), vs = [.ref p, .int m] ∧ Pen H p c ns n ∧ n ≤ 100000 ∧ 0 < m ∧ m < 1073741824 ∧
  ∀ (v : Int) (H' : Hp), 0 ≤ v → v < m → Keep p H H' → Pen H' p c ns (n + 1) → Q (.int v) H'

section
variable {P : Program} {w : World} {K : PySem.W.Frag} {mg : Str → Option Value} {base : Heap}
abbrev nDraw : List Str := ["_law_pen_here", "_law_many", "_law_digit", "_law_at", "_law_cell", "_law_great", "_law_mixed_here"]
theorem scDraw : FnScope nDraw ["_law_pen_here", "_law_many"] (defScope sDraw) := ⟨rfl, rfl, rfl, by decide +kernel, rfl, by decide +kernel, by decide +kernel⟩
theorem fmod_lo {a m : Int} (h : 0 < m) : 0 ≤ a.fmod m := Int.fmod_nonneg_of_pos a h
theorem fmod_hi {a m : Int} (h : 0 < m) : a.fmod m < m := Int.fmod_lt_of_pos a h
theorem fdiv_nn {a m : Int} (ha : 0 ≤ a) (h : 0 < m) : 0 ≤ a.fdiv m := Int.fdiv_nonneg ha (Int.le_of_lt h)
theorem mul_bnd {x y X Y : Int} (h1 : 0 ≤ x) (h2 : x ≤ X) (h3 : 0 ≤ y) (h4 : y ≤ Y) : 0 ≤ x * y ∧ x * y ≤ X * Y :=
  ⟨Int.mul_nonneg h1 h3, Int.mul_le_mul h2 h4 h3 (Int.le_trans h1 h2)⟩
theorem ints_dp (K : PySem.W.Frag) (H : Hp) : ∀ ns : List Int, DpAll K H (ns.map V.int) (ns.map PyData.int)
  | [] => .nil
  | n :: ns => .cons (.int n) (ints_dp K H ns)
theorem canLay_ints : ∀ ns : List Int, PyData.canLayAll0 (ns.map PyData.int) = true
  | [] => rfl
  | n :: ns => by
    show (true && PyData.canLayAll0 (ns.map PyData.int)) = true
    rw [canLay_ints ns]
    rfl
theorem depth_ints : ∀ ns : List Int, PyData.depthAll (ns.map PyData.int) = 0
  | [] => rfl
  | n :: ns => by
    show max 0 (PyData.depthAll (ns.map PyData.int)) = 0
    rw [depth_ints ns]
    rfl
theorem shaped_ints (ns : List Int) : SeqAt.shaped (.list (ns.map PyData.int)) = true := by
  show (PyData.canLayAll0 (ns.map PyData.int) && decide (PyData.depthAll (ns.map PyData.int) + 1 ≤ 64)) = true
  rw [canLay_ints, depth_ints]
  rfl
theorem eqv_nil (ns : List Int) : (!PyData.eqv (.list (ns.map PyData.int)) (.list [])) = !ns.isEmpty := by
  cases ns <;> rfl
theorem len_pos_lt {n : Nat} {a : Int} (h : 0 < n) : 0 ≤ a.fmod (n : Int) ∧ a.fmod (n : Int) < n := ⟨fmod_lo (by omega), fmod_hi (by omega)⟩
end
end K2
end
section
set_option Elab.async false
set_option maxRecDepth 100000
set_option linter.all false
namespace K2
open PySem L2
abbrev sWords : Stmt := top 25
/-- a def of the program: its text, where it stands, how it binds -/
structure Df (K : PySem.W.Frag) (mg : Str → Option Value) (x : Str) (st : Stmt) (f : Addr) (fd : FuncData) (ps : List Str) : Prop where
  F : Fun K x x st f fd
  m : mg x = some (.ref f)
  b : Binds K fd ps []
/-- a list of the heap, or a text: its items -/
def SeqV (p : Addr) (H : Hp) (y : V) (xs : List V) : Prop := (∃ l, y = .ref l ∧ l ≠ p ∧ H l = some (.lst xs)) ∨ (∃ z : Str, y = .str z ∧ xs = (codes z).map (fun c => V.str ⟨#[c]⟩) ∧ z.length ≤ 100) ∨ (∃ t, y = .ref t ∧ t ≠ p ∧ H t = some (.tup xs))
def spPick : Sp := fun vs H Q _ => ∃ (p c : Addr) (ns : List Int) (n : Nat) (y : V) (xs : List V), vs = [.ref p, y] ∧ Pen H p c ns n ∧ n ≤ 100000 ∧ SeqV p H y xs ∧ xs ≠ [] ∧ xs.length ≤ 1000 ∧
  ∀ (j : Nat) (v : V) (H' : Hp), xs[j]? = some v → Keep p H H' → Pen H' p c ns (n + 1) → Q v H'
def spBarred : Sp := fun vs H Q _ => vs = [] ∧ ∀ l, H l = none → Q (.ref l) (upd H l (.lst (barred.map V.str)))
section
variable {P : Program} {w : World} {K : PySem.W.Frag} {mg : Str → Option Value} {base : Heap}
end
end K2
end
section
set_option Elab.async false
set_option maxRecDepth 100000
set_option linter.all false
namespace K2
open PySem L2
theorem strs_ne_pen {ys : List Str} {c : Addr} {a l : Int} : HO.lst (ys.map V.str) ≠ penO c a l := by
  unfold penO
  intro e
  injection e with e
  cases ys with
  | nil => simp at e
  | cons y ys => simp at e
theorem str_eqV (a b : Str) : eqV (.str a) (.str b) = decide (a = b) := by
  show (a == b) = decide (a = b)
  by_cases h : a = b
  · simp [h]
  · simp [h]
theorem inV_strs (x : Str) : ∀ ys : List Str, inV (.str x) (ys.map V.str) = decide (x ∈ ys)
  | [] => rfl
  | y :: ys => by
    show (eqV (.str y) (.str x) || inV (.str x) (ys.map V.str)) = decide (x ∈ y :: ys)
    rw [inV_strs x ys, str_eqV]
    by_cases h : y = x
    · subst h; simp
    · have h2 : ¬ x = y := fun e => h e.symm
      simp [h, h2]
theorem flat_strs : ∀ ys : List Str, (ys.map V.str).all flatV = true
  | [] => rfl
  | y :: ys => by
    show (true && (ys.map V.str).all flatV) = true
    rw [flat_strs ys]
    rfl
theorem codes_append (x y : Str) : codes (x ++ y) = codes x ++ codes y := TL.tl_append x y
theorem codes_one (c : Nat) : codes ⟨#[c]⟩ = [c] := rfl
theorem len_codes (x : Str) : x.length = (codes x).length := by
  show x.cps.size = x.cps.toList.length
  simp
theorem join_ones : ∀ l : List Nat, codes (Txt.join Str.empty (l.map fun c => (⟨#[c]⟩ : Str))) = l := by
  intro l
  rw [TL.join_eq]
  show TL.tl (Str.join Str.empty _) = l
  rw [TL.tl_join]
  show TL.joinL [] _ = l
  induction l with
  | nil => rfl
  | cons c l ih =>
    cases l with
    | nil => rfl
    | cons d l =>
      show [c] ++ ([] ++ TL.joinL [] _) = _
      rw [List.nil_append]
      show [c] ++ TL.joinL [] (List.map TL.tl (List.map (fun c => (⟨#[c]⟩ : Str)) (d :: l))) = c :: d :: l
      rw [ih]
      rfl
theorem cut_to {z : Str} {k : Nat} (h : k ≤ (codes z).length) : codes (cutS z none (some (k : Int))) = (codes z).take k := by
  unfold cutS codes
  rw [HT.sIx_nat, HT.sIx_none]
  have e : z.length = z.cps.toList.length := len_codes z
  have h' : k ≤ z.cps.toList.length := h
  simp only [List.drop_zero, Nat.sub_zero]
  rw [Nat.min_eq_left (by omega)]
theorem cut_from {z : Str} {k : Nat} (h : k ≤ (codes z).length) : codes (cutS z (some (k : Int)) none) = (codes z).drop k := by
  unfold cutS codes
  rw [HT.sIx_nat, HT.sIx_none]
  have e : z.length = z.cps.toList.length := len_codes z
  have h' : k ≤ z.cps.toList.length := h
  rw [Nat.min_eq_left (by omega), e]
  simp only []
  rw [List.take_of_length_le (by rw [List.length_drop]; omega)]
theorem Pen.pne {H : Hp} {p c q : Addr} {ns : List Int} {n : Nat} (h : Pen H p c ns n) (hq : H q = none) : p ≠ q := by
  obtain ⟨a, l, g, _⟩ := h.pen
  exact ne_of_none g hq
theorem Pen.cne {H : Hp} {p c q : Addr} {ns : List Int} {n : Nat} (h : Pen H p c ns n) (hq : H q = none) : c ≠ q := ne_of_none h.cells hq
theorem Keep.fresh {p c q : Addr} {ns : List Int} {n : Nat} {H H1 : Hp} (k : Keep p H H1) (P1 : Pen H1 p c ns n) (h : H1 q = none) : H q = none := by
  cases e : H q with
  | none => rfl
  | some o =>
    rw [k q o e (P1.pne h).symm] at h
    cases h
theorem Pen.strs_ne {H : Hp} {p c q : Addr} {ns : List Int} {n : Nat} {ys : List Str} (h : Pen H p c ns n) (hq : H q = some (.lst (ys.map V.str))) : q ≠ p := fun e => by
  obtain ⟨a, l, g, _⟩ := h.pen
  rw [e, g] at hq
  exact strs_ne_pen (Option.some.inj hq).symm
section
variable {X : Cx}
theorem mulOk_small {x : Str} {k : Int} (h0 : 0 ≤ k) (h1 : k ≤ 8) (hx : x.length ≤ 8) : MulOk x k := by
  refine ⟨?_, fun _ _ => ?_, fun _ _ => ?_⟩
  · simp only [Bool.or_eq_false_iff, decide_eq_false_iff_not]
    omega
  · have : k = 0 ∨ k = 1 ∨ k = 2 ∨ k = 3 ∨ k = 4 ∨ k = 5 ∨ k = 6 ∨ k = 7 ∨ k = 8 := by omega
    rcases this with rfl | rfl | rfl | rfl | rfl | rfl | rfl | rfl | rfl <;> omega
  · unfold Builtin.Str.tooLong
    rw [decide_eq_false_iff_not]
    have h2 : x.length * k.toNat ≤ 8 * 8 := Nat.mul_le_mul hx (by omega)
    have : sizeLine = 16777216 := rfl
    omega
/-! the same rules with the written part named apart (within a comprehension) -/
theorem pe_bmK {K' : PySem.W.Frag} {T : String} {name : Str} {id : String} {r : V → List V → Hp → VK → Prop} {o e : Expr} {es : List Expr} {to : TE} {t : TA} {apos cpos : Pos} (hK : X.K = K') (pa : PlainAttrs T) (slot : PySem.Slot T name id) (hty : typeOf (.builtin id) = pure (.type "method_descriptor")) (hm : MtR X id r) (ho : PE X o to) (ha : PA X (e :: es) t)
    (hbase : attributeBase o name X.env (eval o X.env) = eval o X.env := by rfl)
    (hfew : ((backTo cpos (starEach (e :: es) X.env)).all (fun x => !x.1) && (backToKw cpos (keywordEach [] X.env)).all (fun x => x.1.isSome)
      && decide ((e :: es).length + ([] : List Keyword).length + (if ([] : List Keyword).isEmpty then 0 else 1) < 30)) = true := by rfl)
    (hline : (apos.endLine == cpos.line) = true := by rfl) (hs : starEach (e :: es) X.env = (false, eval e X.env) :: starEach es X.env := by rfl) (hplain : (backTo cpos (starEach es X.env)).any (·.1) = false := by rfl) :
    PE X (.Call (.Attribute o name apos) (e :: es) [] cpos) (tBM K' T r to t) := by
  subst hK
  exact pe_bm pa slot hty hm ho ha hbase hfew hline hs hplain
theorem call_len_seqK {K' : PySem.W.Frag} (hK : X.K = K') : CallR X (.builtin "len") (fun xs H Q => ∃ p ys, xs = [V.ref p] ∧ (SqL K' H p ys ∨ SqT K' H p ys) ∧ Q (.int ys.length) H) := by
  subst hK
  exact call_len_seq
theorem ix_listK {K' : PySem.W.Frag} (hK : X.K = K') : IxR X (rIxL K') := by
  subst hK
  exact ix_list
theorem op_in_seqK {K' : PySem.W.Frag} (hK : X.K = K') : OpR X (compareOp .In) (rIn K' false) := by
  subst hK
  exact op_in_seq
theorem op_notIn_seqK {K' : PySem.W.Frag} (hK : X.K = K') : OpR X (compareOp .NotIn) (rIn K' true) := by
  subst hK
  exact op_notIn_seq
theorem op_mul_str : OpR X (binaryOp .Mult) (fun x y H Q => ∃ a k, x = .str a ∧ y = .int k ∧ 0 ≤ k ∧ k ≤ 8 ∧ a.length ≤ 8 ∧ Q (.str (Txt.mul a k)) H) := by
  intro pins s σ H x y v u Q I rx ry h
  obtain ⟨a, k, rfl, rfl, h0, h1, hx, q⟩ := h
  obtain ⟨t, rfl⟩ := rx
  obtain ⟨t', rfl⟩ := ry
  exact SB.mul (mulOk_small h0 h1 hx) (fun t' tk => ⟨.str (Txt.mul a k), H, I.tok _, ⟨_, rfl⟩, q⟩)
end
end K2
end
section
set_option Elab.async false
set_option maxRecDepth 100000
set_option linter.all false
namespace K2
open PySem L2
theorem low_letters : ∀ c ∈ codes (Str.ofString "abcdefghijklmnopqrstuvwxyz"), 97 ≤ c ∧ c ≤ 122 := by decide +kernel
theorem at_letters : ∀ j, j < 26 → (codes (Str.ofString "abcdefghijklmnopqrstuvwxyz"))[j]? = some (97 + j) := by decide +kernel
theorem sum_ones : ∀ l : List Nat, (((l.map fun c => (⟨#[c]⟩ : Str)).map (·.length)).sum) = l.length
  | [] => rfl
  | c :: l => by
    rw [List.map_cons, List.map_cons, List.sum_cons, sum_ones l, List.length_cons]
    show 1 + l.length = l.length + 1
    omega
theorem if01 (c : Bool) : 0 ≤ (if c = true then (1 : Int) else 0) ∧ (if c = true then (1 : Int) else 0) ≤ 8 := by cases c <;> decide
theorem fin_q {W : Str} {b : List Nat} {spot f h i : Nat} (e : codes W = wordAt b spot (signAt f h i)) (hi : 26 ≤ i) : W ++ Str.ofString "q" = txt (finalAt b spot f h i) := by
  refine codes_inj ?_
  rw [codes_append, codes_txt, e]
  unfold finalAt
  dsimp only
  rw [if_pos hi]
  rfl
theorem fin_z {W : Str} {b : List Nat} {spot f h i : Nat} (e : codes W = wordAt b spot (signAt f h i)) (hi : ¬ 26 ≤ i) : W ++ Txt.mul (Str.ofString "z") (if W ∈ barred then 1 else 0) = txt (finalAt b spot f h i) := by
  refine codes_inj ?_
  have eW : txt (wordAt b spot (signAt f h i)) = W := by rw [← e, txt_codes]
  rw [codes_append, codes_txt, e]
  unfold finalAt
  dsimp only
  rw [if_neg hi, eW]
  congr 1
  by_cases hb : W ∈ barred
  · rw [if_pos hb, if_pos hb]
    decide +kernel
  · rw [if_neg hb, if_neg hb]
    decide +kernel
theorem finals_succ (b : List Nat) (spot f h i : Nat) : finals b spot f h (i + 1) = finals b spot f h i ++ [txt (finalAt b spot f h i)] := by
  unfold finals
  rw [List.range_succ, List.map_append]
  rfl
/-- a fresh list of m words -/
def spWords : Sp := fun vs H Q _ => ∃ (p c : Addr) (ns : List Int) (n m : Nat), vs = [.ref p, .int m] ∧ Pen H p c ns n ∧ n + 12 ≤ 100000 ∧ m ≤ 31 ∧
  ∀ (l : Addr) (ws : List Str) (H' : Hp), Words ws → ws.length = m → H' l = some (.lst (ws.map V.str)) → Keep p H H' → Pen H' p c ns (n + 12) → Q (.ref l) H'
abbrev nWords : List Str := ["_law_pen_here", "_law_many", "_law_letters", "_law_k", "_law_base", "_law_spot", "_law_first", "_law_hop", "_law_found", "_law_sign", "_law_word", "_law_more"]
section
variable {P : Program} {w : World} {K : PySem.W.Frag} {mg : Str → Option Value} {base : Heap}
theorem scWords : FnScope nWords ["_law_pen_here", "_law_many"] (defScope sWords) := ⟨rfl, rfl, rfl, by decide +kernel, rfl, by decide +kernel, by decide +kernel⟩
end
end K2
end
section
set_option Elab.async false
set_option maxRecDepth 100000
set_option linter.all false
namespace K2
open PySem L2
theorem _root_.L2.Same.put {H H1 : Hp} {q : Addr} {o : HO} (k : Same H H1) (h : H q = none) : Same H (upd H1 q o) := fun b u hb => by
  rw [upd_ne (ne_of_none hb h)]
  exact k b u hb
theorem Pen.same {H H' : Hp} {p c : Addr} {ns : List Int} {n : Nat} (h : Pen H p c ns n) (k : Same H H') : Pen H' p c ns n := by
  obtain ⟨a, l, g, g1, g2, g3⟩ := h.pen
  exact ⟨⟨a, l, k _ _ g, g1, g2, g3⟩, k _ _ h.cells, h.small⟩
theorem _root_.L2.Same.keep {p : Addr} {H H' : Hp} (k : Same H H') : Keep p H H' := fun b o h _ => k b o h
theorem dget_s {H : Hp} {a : Addr} {kvs : List (Key × V)} {x : Str} {v : V} (e : H a = some (.dK kvs)) (hv : valV kvs (Sum.inr x : Key) = some v) : DGet H a (.str x) (some v) := by
  have := DGet.k (k := (Sum.inr x : Key)) e
  rw [hv] at this
  exact this
theorem cutV_whole {xs : List V} {lo hi : Option Int} (h : HT.sIx xs.length 0 lo = 0 ∧ HT.sIx xs.length xs.length hi = xs.length) : cutV xs lo hi = xs := by
  unfold cutV
  rw [h.1, h.2, List.drop_zero, Nat.sub_zero, List.take_length]
def rSl2 : V → Option Int → Option Int → Hp → VK → Prop := fun x lo hi H Q => ∃ a xs, x = .ref a ∧ H a = some (.tup xs) ∧ ∀ p H1, Same H H1 → H1 p = some (.tup (cutV xs lo hi)) → Q (.ref p) H1
def rCat2 : R2 := fun x y H Q => ∃ a b xs ys, x = .ref a ∧ y = .ref b ∧ H a = some (.tup xs) ∧ H b = some (.tup ys) ∧ xs.length + ys.length ≤ sizeLine ∧ ∀ p H1, Same H H1 → H1 p = some (.tup (xs ++ ys)) → Q (.ref p) H1
section
variable {X : Cx}
theorem sl_tup2 : SlR X rSl2 := by
  intro pins s σ H x v vl vu lo hi sl Q I rx hs pl pu h
  obtain ⟨a, xs, rfl, ha, q⟩ := h
  exact sl_tupA pins s σ H _ v vl vu lo hi sl Q I rx hs pl pu ⟨a, xs, rfl, SqT.of ha, fun hw => q a H (Same.refl H) (by rw [cutV_whole hw]; exact ha), fun _ p hp => q p _ ((Same.refl H).put hp) upd_same⟩
theorem op_cat2 : OpR X (binaryOp .Add) rCat2 := by
  intro pins s σ H x y v u Q I rx ry h
  obtain ⟨a, b, xs, ys, rfl, rfl, ha, hb, hz, q⟩ := h
  refine op_catA pins s σ H _ _ v u Q I rx ry ⟨a, b, xs, ys, rfl, rfl, SqT.of ha, SqT.of hb, hz, fun e => q b H (Same.refl H) (by rw [e]; exact hb), fun _ e => q a H (Same.refl H) (by rw [e, List.append_nil]; exact ha), fun _ _ p hp => q p _ ((Same.refl H).put hp) upd_same⟩
end
end K2
end
section
set_option Elab.async false
set_option maxRecDepth 100000
set_option linter.all false
namespace K2
open PySem PySem.Spec PyProof.Rows L2
/-! enumerate(t) of a tuple -/
def enumO (i : Addr) : Obj := { cls := .type "enumerate", data := .fields #[.none, .bool false, .ref i, rawInt 0, .none, .none] }
set_option maxHeartbeats 1000000 in
theorem enum_made {v : Value} {o : Obj} {B : Heap → Prop} (b : Begins v o B) :
    Meets (Builtin.«enumerate.__new__» ⟨[.type "enumerate", v], []⟩) (fun _ R s => B s.heap ∧ R (.ok (.ret (.ref (s.heap.push o).objs.size))) { s with heap := (s.heap.push o).push (enumO s.heap.objs.size) }) :=
  .of_wp fun prog w A R ⟨hp, g, d, tk, os⟩ ⟨h1, h⟩ => by
    have q0 := sub_enumerate
    have q1 : ∀ {A' : Around} {E : Value → Shared → Prop} {Q : Value → Shared → Prop}, Q (.ref hp.objs.size) ⟨hp.push o, g, d, tk, os⟩ → wpAny (model prog w) A' (pyIter v) Q E ⟨hp, g, d, tk, os⟩ := fun q => b.iter prog w _ _ ⟨hp, g, d, tk, os⟩ _ h1 q
    wp_walk using q1
    refine wpAny_stack_any fun st => wpAny_pure ?_
    split
    · rename_i c _ _ _ _ _
      cases (c == Value.type "enumerate") <;> (wp_walk using q1; exact ⟨_, rfl, h⟩)
    · wp_walk using q1
      exact ⟨_, rfl, h⟩
section
variable {prog : Program} {w : World} {A : Around} {E : Value → Shared → Prop} {s : Shared}
theorem enum_call {v : Value} {o : Obj} {B : Heap → Prop} {Q : Value → Shared → Prop} (b : Begins v o B) (h1 : B s.heap)
    (h : ∀ h', IsEnum h' (s.heap.objs.size + 1) s.heap.objs.size 0 .none → h'.get? s.heap.objs.size = some o → (∀ a u, s.heap.get? a = some u → h'.get? a = some u) → Q (.ref (s.heap.objs.size + 1)) { s with heap := h' }) :
    wpAny (model prog w) A (call (.type "enumerate") [v]) Q E s := by
  refine callType_new F.called_enumerate (by decide) (F.typeCall_enumerate_1 _) (F.newCall_enumerate_1 _) (fun obj => F.args_object_init_2 obj _) F.entry_enumerate_new (enum_made b) ⟨h1, ?_⟩
  have sz : (s.heap.push o).objs.size = s.heap.objs.size + 1 := Heap.size_push ..
  have at1 := Heap.get?_push_size (s.heap.push o) (o := enumO s.heap.objs.size) rfl
  rw [sz] at at1
  show _ ∧ _
  rw [sz]
  exact ⟨⟨_, at1, rfl⟩, h _ at1 (Heap.get?_push_of_some _ (Heap.get?_push_size _ b.free)) fun a u x => Heap.get?_push_of_some _ (Heap.get?_push_of_some _ x)⟩
end
/-- the items of the tuple at a, each in a new pair with its number -/
def IteT (a : Addr) (xs : List V) : It :=
  ⟨fun i H => H a = some (.tup xs) ∧ i < xs.length, fun i H v H' => ∃ T x, v = .ref T ∧ H T = none ∧ H' = upd H T (.tup [.int (i : Nat), x]) ∧ xs[i]? = some x, fun i H => H a = some (.tup xs) ∧ i = xs.length⟩
def tnE (e it t : Addr) (i : Nat) (h : Heap) : Prop := (∃ old, IsEnum h e it (0 + ((i : Nat) : Int)) old) ∧ h.IsTupleIter it t i ∧ e ≠ it ∧ t ≠ it ∧ e ≠ t
theorem turn_enumT {P : Program} {w : World} {K : PySem.W.Frag} {elts : List Expr} {kk : Nat} {tpos : Pos} (xs : List V) (t e it : Addr) : Turn P w K (.Tuple elts kk tpos) (IteT t xs) [e, it] e (tnE e it t) where
  mem := by simp
  obj := fun i h ⟨⟨old, he⟩, ⟨o, ho, hc, hd⟩, _⟩ b hb => by
    rcases List.mem_cons.mp hb with z | z
    · subst z; exact ⟨_, he, fun v q => nomatch q⟩
    · rw [List.mem_singleton.mp z]; exact ⟨o, ho, fun v q => by rw [hd] at q; cases q⟩
  keep := fun i h h' ⟨⟨old, he⟩, hi, n1, n2, n3⟩ k => ⟨⟨old, k e (by simp) _ he⟩, hi.at fun o q => k it (by simp) o q, n1, n2, n3⟩
  item := by
    rintro X rfl rfl rfl hc i pins s σ H E I hf ⟨he, hi, n1, n2, n3⟩ ⟨ha, hlt⟩
    obtain ⟨its, rv, pl, _⟩ := I.tuple (SqT.of ha)
    have sz : its.toArray.size = xs.length := by rw [List.size_toArray, rv.length]
    have W := WalksT.enumFrom (prog := X.prog) (w := X.w) (A := X.A) 0 (Draws.tuple (A := X.A.in1) (by simp [I.ok.hd hc]) it t n2 its.toArray) e n1 (by simp [n1, n3]) (by simp)
    refine W.item i s _ _ (by rw [sz]; exact hlt) ⟨he, hi, pl⟩ fun T vals h' tk ⟨tt, x, hx, ev⟩ hT hTup mid fr => ⟨_, rfl, W.go elts kk tpos i T _ _ _ mid fun h'' ⟨he2, hi2, _⟩ fr2 => ?_⟩
    have hx2 : its[i]? = some x := by simpa using hx
    obtain ⟨y, hy, ry⟩ : ∃ y, xs[i]? = some y ∧ RelV y x := by
      have q : xs[i]? = some xs[i] := List.getElem?_eq_getElem hlt
      obtain ⟨u, hu, ru⟩ := rv.get q
      rw [hx2] at hu
      cases hu
      exact ⟨_, q, ru⟩
    have hTw := W.apart i T _ mid
    have hTf : H T = none := I.hok.fresh hT
    obtain ⟨o2, ho2, hc2, nn, hd2⟩ := hTup
    have new : ObjOk X.prog X.w (upd H T (.tup [.int (i : Nat), y])) h'' T (.tup [.int (i : Nat), y]) :=
      ⟨by show 2 ≤ sizeLine; decide, [.int (i : Nat) tt, x], .cons ⟨_, rfl⟩ (.cons ry .nil), ⟨o2, fr2 T o2 hTw ho2, hc2, nn, by rw [hd2, ev, Int.zero_add]⟩⟩
    refine ⟨.ref T, _, I.turnedNew (ch := [e, it]) (fun b ob hb q => fr2 b ob hb (fr b ob hb q)) hf hT new, rfl, ⟨T, y, rfl, hTf, rfl, hy⟩, ⟨he2, hi2, n1, n2, n3⟩, fun b hb => ?_⟩
    rw [upd_ne fun z : b = T => hTw (z ▸ hb)]
    exact (hf b hb).1
  done := by
    rintro X rfl rfl rfl hc i pins s σ H E I hf ⟨he, hi, n1, n2, n3⟩ ⟨ha, hle⟩
    obtain ⟨its, rv, pl, _⟩ := I.tuple (SqT.of ha)
    have sz : its.toArray.size = i := by rw [List.size_toArray, ← rv.length, hle]
    have W := WalksT.enumFrom (prog := X.prog) (w := X.w) (A := X.A) 0 (Draws.tuple (A := X.A.in1) (by simp [I.ok.hd hc]) it t n2 its.toArray) e n1 (by simp [n1, n3]) (by simp)
    rw [sz] at W
    exact W.done s _ _ ⟨he, hi, pl⟩ fun h' tk fr => ⟨rfl, I.turnedL (ch := [e, it]) fr hf⟩
  self := fun A i s Q E ⟨⟨_, he⟩, _⟩ h => wpAny_pyIter_enum he h
def iEnumT (ta : TA) : TI := fun σ H R => ta σ H fun vs H1 => ∃ a xs, vs = [.ref a] ∧ H1 a = some (.tup xs) ∧ R (IteT a xs) H1
theorem pi_enumT {X : Cx} {e : Expr} {ta : TA} {p pos tpos : Pos} {elts : List Expr} {kk : Nat} (hg : Gl X "enumerate") (hm : X.mg "enumerate" = none) (ha : PA X [e] ta) (hs : starEach [e] X.env = [(false, eval e X.env)] := by rfl) :
    PI X (.Tuple elts kk tpos) (.Call (.Name "enumerate" p) [e] [] pos) (iEnumT ta) := by
  refine ⟨fun pins s σ H R I h => Call_ (ld_blt I hg hm boot_enumerate (callWith_type1 (thn (ha.run pos pins s σ H _ I h) fun us s1 ⟨vs, H1, I1, r1, q1⟩ => ?_) hs rfl))⟩
  obtain ⟨a, xs, rfl, ht, q⟩ := q1
  cases r1 with
  | cons r rr =>
    cases rr
    cases r
    obtain ⟨its, rv, pl, _⟩ := I1.tuple (SqT.of ht)
    have al : a < s1.heap.objs.size := by obtain ⟨_, z, _⟩ := pl; exact Heap.lt_size z
    refine enum_call (begins_tuple a its.toArray) pl fun h' he hit hk => wpAny_pyIter_enum he ⟨s1.heap.objs.size + 1, [s1.heap.objs.size + 1, s1.heap.objs.size], _, _, H1, rfl, I1.kept (t' := s1.toks) hk, turn_enumT xs a (s1.heap.objs.size + 1) s1.heap.objs.size,
      ⟨⟨.none, he⟩, ⟨_, hit, rfl, rfl⟩, Nat.succ_ne_self _, Nat.ne_of_lt al, Nat.ne_of_gt (Nat.lt_succ_of_lt al)⟩, fun b hb => ?_, q⟩
    have le : s1.heap.objs.size ≤ b := by
      rcases List.mem_cons.mp hb with z | z
      · rw [z]; exact Nat.le_succ _
      · rw [List.mem_singleton.mp z]; exact Nat.le_refl _
    exact I1.fpOk le (I1.hok.fresh le)
theorem walk_enumT (a : Addr) (xs : List V) : Walk (IteT a xs) xs.length (fun H => H a = some (.tup xs)) (fun i H v H' => ∃ T x, v = .ref T ∧ H T = none ∧ H' = upd H T (.tup [.int (i : Nat), x]) ∧ xs[i]? = some x) :=
  ⟨fun i H hi h => ⟨h, hi⟩, fun H h => ⟨h, rfl⟩, fun i H x H' _ _ y => y⟩
end K2
end
section
set_option Elab.async false
set_option maxRecDepth 100000
set_option linter.all false
namespace K2
open PySem L2
abbrev nInit : List Str := ["self", "rows", "lines", "k", "row", "reason"]
def flds (r n l : Addr) : List (Str × V) := putF "_lines" (.ref l) (putF "names" (.ref n) (putF "rows" (.ref r) []))
theorem k1_ : ¬ (("rows" : Str) = "names") := by decide +kernel
theorem k2_ : ¬ (("rows" : Str) = "_lines") := by decide +kernel
theorem k3_ : ¬ (("names" : Str) = "_lines") := by decide +kernel
theorem flds_lines (r n l : Addr) : (flds r n l).lookup ("_lines" : Str) = some (.ref l) := by
  unfold flds
  rw [lookup_putF, if_pos rfl]
theorem flds_no (r n l : Addr) {m : Str} (h1 : ¬ m = "_lines") (h2 : ¬ m = "names") (h3 : ¬ m = "rows") : (flds r n l).lookup m = none := by
  unfold flds
  rw [lookup_putF, if_neg h1, lookup_putF, if_neg h2, lookup_putF, if_neg h3]
  rfl
theorem flds_names (r n l : Addr) : (flds r n l).lookup ("names" : Str) = some (.ref n) := by
  unfold flds
  rw [lookup_putF, if_neg k3_, lookup_putF, if_pos rfl]
theorem flds_rows (r n l : Addr) : (flds r n l).lookup ("rows" : Str) = some (.ref r) := by
  unfold flds
  rw [lookup_putF, if_neg k2_, lookup_putF, if_neg k1_, lookup_putF, if_pos rfl]
structure Txt (K : PySem.W.Frag) (mg : Str → Option Value) (C : Addr) : Prop where
  cl : Cls K C
  nR : NoAttr K C "rows"
  nN : NoAttr K C "names"
  nL : NoAttr K C "_lines"
  mgC : mg "Classes" = some (.ref C)
section
variable {P : Program} {w : World} {K : PySem.W.Frag} {mg : Str → Option Value} {base : Heap}
end
end K2
end
section
set_option Elab.async false
set_option maxRecDepth 100000
set_option linter.all false
namespace K2
open PySem L2 PySem.Spec PyProof.Rows
section
variable {X : Cx} {CX : CXT} {k n i : Nat} {f C : Addr} {fd : FuncData} {ps ks : List Str} {sp : Sp} {E : XK} {m x : Str} {o e : Expr} {p q pos apos : Pos} {ta tk te : TA} {g : List Value → List Value → List Value} {gV : List V → List V → List V} {kws : List Keyword}
theorem run_fnK {pins : List (Addr × Obj)} {σ : L2.St} {H : Hp} {s : Shared} {Q : VK} {us ws : List Value} {vs zs : List V} (F : FnOk X.prog X.w X.K X.mg X.base CX k f fd ps sp) (hr : Room k X.A) (hb : KBn X.K fd ps n ks g gV) (hx : Passes CX X E) (I : Inv X pins σ H s)
    (r : Vals vs us) (rz : Vals zs ws) (l1 : us.length = n) (l2 : ws.length = ks.length) (h : sp (gV vs zs) H Q E) : wpAny (model X.prog X.w) X.A (call (.ref f) us (ks.zip ws)) (EP X pins σ Q) X.xe s := by
  refine wpAny_call (codeAny_mono (F.run X.A X.stack s H ⟨us, ks.zip ws⟩ (g us ws) (gV vs zs) Q E hr I.env0 (hb.to s us ws I.kIn l1 l2) (hb.rel r rz) h) fun y z hq => ?_)
  cases y with
  | error e => exact hx pins σ H s e z I hq
  | ok fl =>
    cases fl with
    | ret u => exact I.after hq
    | next => exact hq.elim
    | brk => exact hq.elim
    | cont => exact hq.elim
/-- o.m(k = v, ..) -/
def tMethK (C : Addr) (m : Str) (sp : Sp) (ks : List Str) (gV : List V → List V → List V) (E : XK) (to : TE) (tk : TA) : TE := fun σ H Q => to σ H fun x H1 => ∃ a dx fs, x = .ref a ∧ H1 a = some (.ins C dx fs) ∧ fs.lookup m = none ∧ tk σ H1 fun zs H2 => zs.length = ks.length ∧ sp (gV [x] zs) H2 Q E
theorem pe_methK {to : TE} {pl : Sem Bool} (he : PE X o to) (c : Cls X.K C) (hm : Meth X.K C m f) (F : FnOk X.prog X.w X.K X.mg X.base CX k f fd ps sp) (hr : Room k X.A) (hb : KBn X.K fd ps 1 ks g gV) (hx : Passes CX X E) (hkw : PK X kws tk)
    (hall : (backToKw pos (keywordEach kws X.env)).all (·.1.isSome) = true := by rfl) (hks : (backToKw pos (keywordEach kws X.env)).filterMap (·.1) = ks := by rfl) (hpl : ((backTo pos (starEach [] X.env)).any (·.1) || (backToKw pos (keywordEach kws X.env)).any (·.1.isNone)) = false := by rfl)
    (ht : eval (.Call (.Attribute o m apos) [] kws pos) X.env = (do
      let ov ← eval o X.env
      standAt apos.atName
      let (f, first) ← holding [ov] (getMethod ov m pl)
      callWith pos f first (backTo pos (starEach [] X.env)) (backToKw pos (keywordEach kws X.env))) := by rfl) : PE X (.Call (.Attribute o m apos) [] kws pos) (tMethK C m sp ks gV E to tk) := by
  refine ⟨fun pins s σ H Q I h => PySem.W.methodCall_KW (pl := pl) (thn (he.run pins s σ H _ I h) fun u s1 ⟨x, H1, I1, rx, a, dx, fs, ex, ea, l, q⟩ => ?_) ht⟩
  subst ex
  obtain rfl : u = Value.ref a := rx
  refine getmeth_ok I1 ea c hm l (PySem.W.callWith_KW0 (first := [.ref a]) (h₀ := X.base) I.ok.mod.kin hm.kp hall (thn (hkw.run pos pins s1 σ H1 _ I1 q) fun ws s2 ⟨zs, H2, I2, rz, l2, q2⟩ => ⟨I2.kIn, ?_⟩) hpl)
  rw [hks]
  exact run_fnK (us := [.ref a]) (vs := [.ref a]) F hr hb hx I2 (.cons rfl .nil) rz rfl (by rw [← l2, rz.length]) q2
/-- c(*y), c a name that holds a class -/
def tMakeL (i : Nat) (K : PySem.W.Frag) (C : Addr) (sp : Sp) (E : XK) (te : TE) : TE := fun σ H Q => σ[i]? = some (some (.ref C)) ∧ te σ H fun y H1 => ∃ a xs, y = .ref a ∧ (SqT K H1 a xs ∨ SqL K H1 a xs) ∧ ∀ x dx, H1 x = none → H1 dx = none → dx ≠ x →
  sp (V.ref x :: xs) (upd (upd H1 dx (.own x)) x (.ins C dx [])) (fun v H2 => v = .non ∧ Q (.ref x) H2) E
theorem pe_makeL {te : TE} (M : Mk X.K C f) (F : FnR X.prog X.w X.K X.mg X.base CX k f sp) (hr : Room (k + 1) X.A) (hN : X.N[i]? = some x) (hv : Vis X.env.scope x) (hx : Passes CX X E) (he : PE X e te) (hdb : (x == ("__debug__" : Str)) = false := by decide) (hcd : (x == ("__classdict__" : Str)) = false := by decide)
    (hst : starEach [.Starred e q] X.env = [(true, eval e X.env)] := by rfl) : PE X (.Call (.Name x p) [.Starred e q] [] pos) (tMakeL i X.K C sp E te) := by
  refine ⟨fun pins s σ H Q I ⟨hs, ht⟩ => wpAny_Call_Name_kw (thn ((pe_var (pos := p) hN hv hdb hcd).run pins s σ H (fun v H1 => v = .ref C ∧ H1 = H) I ⟨.ref C, hs, rfl, rfl⟩) fun u s1 ⟨v, H1, I1, r1, q1⟩ => ?_)⟩
  obtain ⟨rfl, rfl⟩ := q1
  cases r1
  refine PySem.W.callWith_S (h₀ := X.base) I.ok.mod.kin M.kp (thn (he.run pins s1 σ _ _ I1 ht) fun v s2 ⟨y, H2, I2, ry, a, xs, ey, hxs, h2⟩ => ?_) hst
  subst ey
  obtain rfl : v = Value.ref a := ry
  exact StX.star_any I2 hxs fun us s3 I3 rv => ⟨I3.kIn, StX.run_makeR M F hr hx I3 rv h2⟩
end
section
variable {P : Program} {w : World} {K : PySem.W.Frag} {mg : Str → Option Value} {base : Heap}
end
end K2
end
section
set_option Elab.async false
set_option maxRecDepth 100000
set_option linter.all false
namespace K2
open PySem L2 PySem.Spec PyProof.Rows
/-- a def's promise where no repr runs around -/
structure FnG (P : Program) (w : World) (K : PySem.W.Frag) (mg : Str → Option Value) (base : Heap) (k : Nat) (f : Addr) (fd : FuncData) (ps : List Str) (sp : Sp) : Prop where
  len : ∀ vs H Q E, sp vs H Q E → vs.length = ps.length
  run : ∀ (A : Around) (outer : List Env) (s : Shared) (H : Hp) (args : Args) (us : List Value) (vs : List V) (Q : VK) (E : XK), Room k A → A.guards = some [] → Env0 P w K mg base A outer s H → BindsTo s fd args (ps.zip us) → Vals vs us → sp vs H Q E →
    codeAny (model P w) A (.call (.ref f) args) (CR CX0 outer P w H s Q E) s
section
variable {P : Program} {w : World} {K : PySem.W.Frag} {mg : Str → Option Value} {base : Heap}
theorem okG {x qual : Str} {st : Stmt} {f : Addr} {fd : FuncData} {N ps : List Str} {k : Nat} {sp : Sp} (F : Fun K x qual st f fd) (S : FnScope N ps (defScope st)) (len : ∀ vs H Q E, sp vs H Q E → vs.length = ps.length)
    (body : ∀ (cdv : Value) (A : Around) (outer : List Env) (s : Shared) (H : Hp) (vs : List V) (Q : VK) (E : XK), Room k (A.deeper (envOfC qual (defScope st) s.heap.objs.size f cdv)) → A.guards = some [] → sp vs H Q E →
      ∃ t, PSs (cxOf CX0 P w K mg base N qual (defScope st) f cdv A outer s H E).nox (defBody st) t ∧ t { nx := fun _ H' => Q .non H', rt := Q } (start N vs) H) : FnG P w K mg base (k + 1) f fd ps sp := by
  obtain ⟨oc, od, kV, doc, pm, an, cdv, ct, osl, rfl, lk, hcd⟩ := F.ex
  refine ⟨len, fun A outer s H args us vs Q E hr hg e0 hb rv hs => ?_⟩
  refine StX.run_bnd (G := fun xs H2 => xs = vs ∧ H2 = H) lk hcd S hr e0 (fun A' Ex Q' h => hb _ _ _ _ (h s H vs us e0 Un.refl rfl (fun _ _ z => z) rv (len _ _ _ _ hs) ⟨rfl, rfl⟩)) fun s2 H2 xs ⟨e1, e2⟩ hr2 => ?_
  subst e1 e2
  obtain ⟨t, h1, h2⟩ := body cdv A outer s2 _ _ Q E hr2 hg hs
  exact ⟨t, h1.nox, h2⟩
end
section
variable {X : Cx} {k : Nat} {f : Addr} {fd : FuncData} {ps : List Str} {sp : Sp} {x : Str} {e : Expr} {es : List Expr} {p pos : Pos} {t : TA}
theorem pe_callG (F : FnG X.prog X.w X.K X.mg X.base k f fd ps sp) (hr : Room k X.A) (gu : X.A.guards = some []) (hg : Gl X x) (hm : X.mg x = some (.ref f)) (hk : PySem.W.keepIn X.K (.ref f) = true) (hb : Binds X.K fd ps []) (ha : PA X (e :: es) t) (hdb : (x == ("__debug__" : Str)) = false := by decide)
    (he : starEach (e :: es) X.env = (false, eval e X.env) :: starEach es X.env := by rfl) (hpl : (backTo pos (starEach es X.env)).any (·.1) = false := by rfl) : PE X (.Call (.Name x p) (e :: es) [] pos) (fun σ H Q => t σ H fun vs H1 => sp vs H1 Q E0) := by
  refine ⟨fun pins s σ H Q I h => wpAny_Call_Name_kw (ld_glob I hg hm ?_ hdb)⟩
  refine PySem.W.callWith_K (h₀ := X.base) I.ok.mod.kin hk (thn (ha.run pos pins s σ H _ I h) fun us s1 ⟨vs, H1, I1, r, q⟩ => ⟨I1.kIn, ?_⟩) he hpl
  have l2 : us.length = ps.length := by rw [← r.length]; exact F.len _ _ _ _ q
  have hb2 := hb s1 us I1.kIn (by simpa using l2)
  rw [List.append_nil] at hb2
  refine wpAny_call (codeAny_mono (F.run X.A X.stack s1 H1 ⟨us, []⟩ us vs Q E0 hr gu I1.env0 hb2 r q) fun y z hq => ?_)
  cases y with
  | error e => exact hq.elim
  | ok fl =>
    cases fl with
    | ret u => exact I1.after hq
    | next => exact hq.elim
    | brk => exact hq.elim
    | cont => exact hq.elim
/-! repr of a list of bools -/
def boolsD (bs : List Bool) : PyData := .list (bs.map PyData.bool)
theorem bools_dp (K : PySem.W.Frag) (H : Hp) : ∀ bs : List Bool, DpAll K H (bs.map V.bl) (bs.map PyData.bool)
  | [] => .nil
  | b :: bs => .cons (.bl b) (bools_dp K H bs)
theorem bools_show : ∀ bs : List Bool, PyData.showableAll (bs.map PyData.bool) = true
  | [] => rfl
  | b :: bs => by
    show (true && PyData.showableAll (bs.map PyData.bool)) = true
    rw [bools_show bs]
    rfl
theorem bools_depth : ∀ bs : List Bool, PyData.depthAll (bs.map PyData.bool) = 0
  | [] => rfl
  | b :: bs => by
    show max 0 (PyData.depthAll (bs.map PyData.bool)) = 0
    rw [bools_depth bs]
    rfl
theorem bools_nodict : ∀ bs : List Bool, PyData.hasDictAll (bs.map PyData.bool) = false
  | [] => rfl
  | b :: bs => by
    show (false || PyData.hasDictAll (bs.map PyData.bool)) = false
    rw [bools_nodict bs]
    rfl
theorem bools_sum : ∀ bs : List Bool, ((PyData.shownAll (bs.map PyData.bool)).map (·.length)).sum ≤ 5 * bs.length ∧ (PyData.shownAll (bs.map PyData.bool)).length = bs.length
  | [] => ⟨Nat.le_refl _, rfl⟩
  | b :: bs => by
    obtain ⟨h1, h2⟩ := bools_sum bs
    have hb : (PyData.shown (.bool b)).length ≤ 5 := by cases b <;> decide +kernel
    refine ⟨?_, ?_⟩
    · show (PyData.shown (.bool b)).length + ((PyData.shownAll (bs.map PyData.bool)).map (·.length)).sum ≤ 5 * (bs.length + 1)
      omega
    · show (PyData.shownAll (bs.map PyData.bool)).length + 1 = bs.length + 1
      omega
theorem bools_size (bs : List Bool) (h : bs.length ≤ 1000) : (boolsD bs).shown.length ≤ sizeLine := by
  have h1 := listText_len_le (PyData.shownAll (bs.map PyData.bool))
  obtain ⟨h2, h3⟩ := bools_sum bs
  show (listText (PyData.shownAll (bs.map PyData.bool))).length ≤ 16777216
  omega
/-- repr(xs) of a list of bools: a text that hangs on the bools alone -/
def rReprB (K : PySem.W.Frag) : List V → Hp → VK → Prop := fun xs H Q => ∃ a bs, xs = [V.ref a] ∧ SqL K H a (bs.map V.bl) ∧ (boolsD bs).shown.length ≤ sizeLine ∧ Q (.str (boolsD bs).shown) H
theorem call_reprB (gu : X.A.guards = some []) (hu : X.A.units + 64 < cLine) : CallR X (.builtin "repr") (rReprB X.K) := by
  intro pins s σ H xs us Q I r h
  obtain ⟨a, bs, rfl, hs, hz, q⟩ := h
  obtain ⟨u, rfl, ru⟩ := r.one
  cases ru
  obtain ⟨as, rd⟩ := Dp.reads I (boolsD bs) (V.ref a) (Value.ref a) (.lst hs (bools_dp _ _ bs)) rfl
  have dp : (boolsD bs).depth = 1 := by
    show PyData.depthAll (bs.map PyData.bool) + 1 = 1
    rw [bools_depth]
  refine repr_of_reads' rd (bools_show bs) (fun z => by rw [show (boolsD bs).hasDict = false from bools_nodict bs] at z; cases z) gu (by rw [dp]; omega) (fun b o e => e) (fun h' u tk hk => ⟨.str _, H, I.kept (t' := tk) hk, ⟨u, rfl⟩, q⟩) hz
end
end K2
end
section
set_option Elab.async false
set_option maxRecDepth 100000
set_option linter.all false
namespace K2
open PySem L2 PySem.Spec PyProof.Rows
section
variable {X : Cx} {CX : CXT} {k : Nat} {f C : Addr} {fd : FuncData} {ps : List Str} {sp : Sp} {E : XK}
/-- a def called somewhere below -/
theorem run_at {A : Around} {pins : List (Addr × Obj)} {σ : L2.St} {H : Hp} {s : Shared} {Q : VK} {us : List Value} {vs : List V} (F : FnOk X.prog X.w X.K X.mg X.base CX k f fd ps sp) (hb : Binds X.K fd ps []) (hx : Passes CX X E) (sb : Sub X k A) (I : Inv X pins σ H s) (rv : Vals vs us) (hsp : sp vs H Q E) :
    wpAny (model X.prog X.w) A (call (.ref f) us) (EP X pins σ Q) X.xe s := by
  have e0 : Env0 X.prog X.w X.K X.mg X.base A X.stack s H := by
    have e := I.env0
    exact ⟨by rw [sb.fr]; exact e.frames, e.mod, e.bs, e.bsz, e.funs, e.frf, e.hok, e.bare⟩
  have hl : us.length = ps.length := by rw [← rv.length]; exact F.len _ _ _ _ hsp
  have b2 := hb s us I.kIn (by simpa using hl)
  rw [List.append_nil] at b2
  refine wpAny_call (codeAny_mono (F.run A X.stack s H ⟨us, []⟩ us vs Q E sb.room e0 b2 rv hsp) fun r s' hq => ?_)
  cases r with
  | error e => exact hx pins σ H s e s' I hq
  | ok fl =>
    cases fl with
    | ret w => exact I.after hq
    | next => exact False.elim hq
    | brk => exact False.elim hq
    | cont => exact False.elim hq
/-- len(o) -/
theorem call_lenO (F : FnOk X.prog X.w X.K X.mg X.base CX k f fd ps sp) (hb : Binds X.K fd ps []) (hx : Passes CX X E) (hr : Room (k + 1) X.A) (hs : PySem.W.findIn X.K (.ref C) "__len__" = some (some (.ref f))) (hf : PySem.W.isFn X.K (.ref f) = true) :
    CallR X (.builtin "len") (fun xs H Q => ∃ a dx fs, xs = [.ref a] ∧ H a = some (.ins C dx fs) ∧ sp [.ref a] H (fun v H' => ∃ n : Nat, v = .int n ∧ n < 1000000 ∧ Q (.int n) H') E) := by
  intro pins s σ H xs us Q I r h
  obtain ⟨a, dx, fs, rfl, ha, hsp⟩ := h
  obtain ⟨u, rfl, ru⟩ := r.one
  cases ru
  obtain ⟨mA, J, _⟩ := ins_get I.hok ha
  obtain ⟨od, J, _⟩ := J.look
  obtain ⟨m, hF⟩ := I.fr
  refine PySem.W.len_K hF I.ok.mod.kin J hs hf (wpAny_mono (run_at (vs := [.ref a]) F hb hx (Sub.in1 ⟨hr, rfl⟩) I (.cons rfl .nil) hsp) (fun v s' q => ?_) fun _ _ x => x)
  obtain ⟨x, H', I', rx, n, rfl, hn, q⟩ := q
  obtain ⟨t, rfl⟩ := rx
  exact ⟨⟨by omega, by omega⟩, .int n, H', I'.tok _, ⟨_, rfl⟩, q⟩
/-- x in o -/
theorem op_inO (F : FnOk X.prog X.w X.K X.mg X.base CX k f fd ps sp) (hb : Binds X.K fd ps []) (hx : Passes CX X E) (hr : Room k X.A) (hs : PySem.W.findIn X.K (.ref C) "__contains__" = some (some (.ref f))) (hf : PySem.W.isFn X.K (.ref f) = true) :
    OpR X (compareOp .In) (fun x y H Q => ∃ a dx fs, y = .ref a ∧ H a = some (.ins C dx fs) ∧ sp [.ref a, x] H (fun v H' => ∃ b, v = .bl b ∧ Q (.bl b) H') E) := by
  intro pins s σ H x y v u Q I rx ry h
  obtain ⟨a, dx, fs, rfl, ha, hsp⟩ := h
  cases ry
  obtain ⟨mA, J, _⟩ := ins_get I.hok ha
  obtain ⟨od, J, _⟩ := J.look
  obtain ⟨m, hF⟩ := I.fr
  refine PySem.W.in_K hF I.ok.mod.kin J hs hf (wpAny_mono (run_at (vs := [.ref a, x]) F hb hx ⟨hr, rfl⟩ I (.cons rfl (.cons rx .nil)) hsp) (fun r s' q => ?_) fun _ _ x => x)
  obtain ⟨z, H', I', rz, b, rfl, q⟩ := q
  cases rz
  exact wpAny_truthy_bool ⟨.bl b, H', I', rfl, q⟩
/-- the right side's type, not above the class -/
def RightT (K : PySem.W.Frag) (C : Addr) (H : Hp) (y : V) : Prop := ∃ t, TyX K H y t ∧ PySem.W.notFirst K C t = true
/-- o == y -/
theorem op_eqO (F : FnOk X.prog X.w X.K X.mg X.base CX k f fd ps sp) (hb : Binds X.K fd ps []) (hx : Passes CX X E) (hr : Room k X.A) (hu : X.A.units < cLine) (hs : PySem.W.findIn X.K (.ref C) "__eq__" = some (some (.ref f))) (hf : PySem.W.isFn X.K (.ref f) = true) :
    OpR X (compareOp .Eq) (fun x y H Q => ∃ a dx fs, x = .ref a ∧ H a = some (.ins C dx fs) ∧ RightT X.K C H y ∧ sp [.ref a, y] H (fun v H' => ∃ b, v = .bl b ∧ Q (.bl b) H') E) := by
  intro pins s σ H x y v u Q I rx ry h
  obtain ⟨a, dx, fs, rfl, ha, ⟨t, ty, hn⟩, hsp⟩ := h
  cases rx
  obtain ⟨mA, J, _⟩ := ins_get I.hok ha
  obtain ⟨od, J, _⟩ := J.look
  obtain ⟨m, hF⟩ := I.fr
  obtain ⟨Pz, Z, p, _⟩ := kit_of I ry ty
  show wpAny (model X.prog X.w) X.A (richCompare .Eq (.ref a) u) (EP X pins σ Q) X.xe s
  have lk : PySem.W.Looks (model X.prog X.w) s.heap (typeOf u) t := Z.ty _ _ I.kIn p
  refine PySem.W.cmp_K (op := .Eq) hu hF I.ok.mod.kin J lk hn hs hf (wpAny_mono (run_at (vs := [.ref a, y]) F hb hx ⟨hr, rfl⟩ I (.cons rfl (.cons ry .nil)) hsp) (fun r s' q => ?_) fun _ _ x => x)
  obtain ⟨z, H', I', rz, b, rfl, q⟩ := q
  cases rz
  exact ⟨.bl b, H', I', rfl, q⟩
/-! o != y: by object's own, which asks the class's == -/
theorem bound_ne {M : Model} {A : Around} {Er : Value → Shared → Prop} {s : Shared} {K : PySem.W.Frag} {x C : Addr} {ox : Obj} {od : Option Obj} {args : List Value} {Q : Option Value → Shared → Prop} (Y : K.In s.heap) (J : PySem.W.InstAt s.heap x ox C od)
    (hs : PySem.W.findIn K (.ref C) "__ne__" = some (some (.builtin "object.__ne__"))) (h : wpAny M A (call (.builtin "object.__ne__") (.ref x :: args)) (fun v => Q (some v)) Er s) : wpAny M A (callSpecialIfBound? (.ref x) "__ne__" args) Q Er s := by
  simp only [callSpecialIfBound?, bindSpecialIfBound?]
  refine wpAny_holding (wpAny_bind (wpAny_bind (wpAny_bind (J.type.here ((PySem.W.looks_findIn Y hs).here ?_)))))
  refine wpAny_bind (wpAny_askSetting (wpAny_ite ?_))
  have go : wpAny M A (call (.builtin "object.__ne__") ([.ref x] ++ args) >>= fun v => pure (some v)) Q Er s := wpAny_bind (wpAny_mono h (fun v s' q => wpAny_pure q) fun _ _ q => q)
  split
  · exact wpAny_bind (wpAny_of_eq (F.cmp_object.ne.bind _) (wpAny_pure (by exact go)))
  · exact wpAny_tryCatch (wpAny_bind (wpAny_of_eq (F.cmp_object.ne.bind _) (wpAny_pure (by exact go))))
theorem entry_ne {prog : Program} {w : World} {A : Around} {Er : Value → Shared → Prop} {s : Shared} {K : PySem.W.Frag} {x C f : Addr} {y : Value} {ox : Obj} {od : Option Obj} {Q : Fin → Shared → Prop} (Y : K.In s.heap) (J : PySem.W.InstAt s.heap x ox C od) (hu : A.units < cLine)
    (hs : PySem.W.findIn K (.ref C) "__eq__" = some (some (.ref f))) (hf : PySem.W.isFn K (.ref f) = true)
    (h : wpAny (model prog w) A (call (.ref f) [.ref x, y]) (fun v s' => ∃ b, v = .bool b ∧ Q (.done (.ret (.bool (!b)))) s') Er s) : wpAny (model prog w) A (Builtin.«object.__ne__» ⟨[.ref x, y], []⟩) Q Er s := by
  unfold Builtin.«object.__ne__»
  repeat (first
    | with_reducible refine wpAny_cRoomFor hu ?_
    | (refine wpAny_bind (m := callSpecialIfBound? (.ref x) (Str.ofString "__eq__") [y]) (PySem.W.ifBound_K Y J hs hf (wpAny_mono h (fun r s' hr => by
          obtain ⟨b, rfl, hq⟩ := hr
          repeat (first | exact hq | exact wpAny_pure hq | exact wpAny_truthy_bool hq | (refine wpAny_bind (m := truthy (.bool _)) (wpAny_truthy_bool ?_)) | wp_step)) fun _ _ e => e)))
    | wp_step)
theorem try_ne {prog : Program} {w : World} {A : Around} {Er : Value → Shared → Prop} {s : Shared} {K : PySem.W.Frag} {x C f : Addr} {y : Value} {ox : Obj} {od : Option Obj} {Q : Option Value → Shared → Prop} (Y : K.In s.heap) (J : PySem.W.InstAt s.heap x ox C od) (hu : A.units + 1 < cLine)
    (hn : PySem.W.findIn K (.ref C) "__ne__" = some (some (.builtin "object.__ne__"))) (hm : PySem.W.mroIn K C (.type "object") = some true) (hs : PySem.W.findIn K (.ref C) "__eq__" = some (some (.ref f))) (hf : PySem.W.isFn K (.ref f) = true)
    (h : wpAny (model prog w) A.in1 (call (.ref f) [.ref x, y]) (fun v s' => ∃ b, v = .bool b ∧ Q (some (.bool (!b))) s') Er s) : wpAny (model prog w) A (tryCompare (.ref x) "__ne__" y) Q Er s := by
  unfold tryCompare
  refine wpAny_bind (bound_ne Y J hn (wpAny_call (codeAny_call_builtin F.cmp_object.ne.plain F.cmpEntry_ne (PySem.W.check_slot F.cmpKind_ne F.cmpSplit_ne (J.type.andThen (PySem.W.looks_mroIn Y hm)) (F.cmpArgs_ne _ _)
    (entry_ne (A := A.in1) Y J hu hs hf (wpAny_mono h (fun v s' hv => ?_) fun _ _ e => e))))))
  obtain ⟨b, rfl, hq⟩ := hv
  exact ⟨b, rfl, wpAny_pure hq⟩
theorem op_neO (F : FnOk X.prog X.w X.K X.mg X.base CX k f fd ps sp) (hb : Binds X.K fd ps []) (hx : Passes CX X E) (hr : Room (k + 1) X.A) (hu : X.A.units + 1 < cLine) (hs : PySem.W.findIn X.K (.ref C) "__eq__" = some (some (.ref f))) (hf : PySem.W.isFn X.K (.ref f) = true)
    (hn : PySem.W.findIn X.K (.ref C) "__ne__" = some (some (.builtin "object.__ne__"))) (hm : PySem.W.mroIn X.K C (.type "object") = some true) :
    OpR X (compareOp .NotEq) (fun x y H Q => ∃ a b dx fs dy gs, x = .ref a ∧ y = .ref b ∧ H a = some (.ins C dx fs) ∧ H b = some (.ins C dy gs) ∧ sp [.ref a, .ref b] H (fun v H' => ∃ c, v = .bl c ∧ Q (.bl (!c)) H') E) := by
  intro pins s σ H x y v u Q I rx ry h
  obtain ⟨a, b, dx, fs, dy, gs, rfl, rfl, ha, hb2, hsp⟩ := h
  cases rx
  cases ry
  obtain ⟨mA, J, _⟩ := ins_get I.hok ha
  obtain ⟨od, J, _⟩ := J.look
  obtain ⟨mB, J2, _⟩ := ins_get I.hok hb2
  obtain ⟨od2, J2, _⟩ := J2.look
  have call := run_at (us := [.ref a, .ref b]) (vs := [.ref a, .ref b]) F hb hx (Sub.in1 ⟨hr, rfl⟩) I (.cons rfl (.cons rfl .nil)) hsp
  show wpAny (model X.prog X.w) X.A (richCompare .NotEq (.ref a) (.ref b)) (EP X pins σ Q) X.xe s
  unfold richCompare
  simp only [oneThing_ref]
  refine wpAny_holding (wpAny_bind (wpAny_cRoomFor (Nat.lt_of_succ_lt hu) ?_))
  rw [cmpInfo_NotEq]
  dsimp only
  refine wpAny_bind (J.type.here (wpAny_bind (J2.type.here ?_)))
  rw [show (Value.ref C != Value.ref C) = false from by simp]
  simp only [Bool.false_eq_true, if_false]
  refine wpAny_bind (wpAny_pure ?_)
  simp only [Bool.false_eq_true, if_false]
  refine wpAny_bind (try_ne I.kIn J hu hn hm hs hf (wpAny_mono call (fun r s' q => ?_) fun _ _ x => x))
  obtain ⟨z, H', I', rz, c, rfl, q⟩ := q
  cases rz
  exact ⟨c, rfl, wpAny_pure ⟨.bl (!c), H', I', rfl, q⟩⟩
end
end K2
end
section
set_option Elab.async false
set_option maxRecDepth 100000
set_option linter.all false
namespace K2
open PySem L2 PySem.Spec PyProof.Rows
/-- the staticmethod m of the class at C is the def at g -/
structure SMet (K : PySem.W.Frag) (C : Addr) (mc : Value) (m : Str) (p g : Addr) : Prop where
  at_ : PySem.W.findCls K (.ref C) mc m = some (.get (.builtin "staticmethod.__get__") (.ref p) .none (.ref C))
  rc : ∃ rest, PySem.W.recIn K p "staticmethod" = some (.ref g :: rest)
  kp : PySem.W.keepIn K (.ref g) = true
section
variable {X : Cx} {CX : CXT} {k : Nat} {f g C p : Addr} {mc : Value} {fd : FuncData} {ps ks : List Str} {sp : Sp} {E : XK} {m x : Str} {o e : Expr} {q pos apos nap : Pos} {ta te tk : TE} {tks : TA} {kws : List Keyword}
/-- C.m(), m a staticmethod -/
theorem pe_smeth0 {pl : Sem Bool} (he : PE X o ta) (r : ClX.CRead X.K C mc) (c : SMet X.K C mc m p g) (F : FnOk X.prog X.w X.K X.mg X.base CX k g fd [] sp) (hb : Binds X.K fd [] []) (hr : Room k X.A) (hx : Passes CX X E)
    (ht : eval (.Call (.Attribute o m apos) [] [] pos) X.env = (do
      let ov ← eval o X.env
      standAt apos.atName
      let (f, first) ← holding [ov] (getMethod ov m pl)
      callWith pos f first (backTo pos (starEach [] X.env)) (backToKw pos (keywordEach [] X.env))) := by rfl) : PE X (.Call (.Attribute o m apos) [] [] pos) (fun σ H Q => ta σ H fun z H1 => z = .ref C ∧ sp [] H1 Q E) := by
  constructor
  intro pins s σ H Q I h
  refine PySem.W.methodCall_KW (pl := pl) (thn (he.run pins s σ H _ I h) fun u s1 ⟨z, H1, I1, rz, ez, hs⟩ => ?_) ht
  subst ez
  obtain rfl : u = Value.ref C := rz
  obtain ⟨rest, hp⟩ := c.rc
  refine PySem.W.method_cls I1.kIn r.ga (PySem.W.cls_bind I1.kIn r.rd c.at_ (wpAny_call (PySem.W.sm_get (s := { s1 with toks := s1.toks + 1 }) I1.kIn hp (PySem.W.handed_on rfl ?_))))
  have I2 := I1.tok (s1.toks + 1)
  exact PySem.W.callWith_K0 (first := []) I2.kIn c.kp (run_at (us := []) (vs := []) F hb hx ⟨hr, rfl⟩ I2 .nil hs)
/-- x(), x a class whose __init__ takes any number of things -/
theorem pe_makeR0 (M : Mk X.K C f) (F : FnR X.prog X.w X.K X.mg X.base CX k f sp) (hr : Room (k + 1) X.A) (hg : Gl X x) (hm : X.mg x = some (.ref C)) (hx : Passes CX X E) (hdb : (x == ("__debug__" : Str)) = false := by decide) :
    PE X (.Call (.Name x nap) [] [] pos) (fun σ H Q => ∀ y dx, H y = none → H dx = none → dx ≠ y → sp [V.ref y] (upd (upd H dx (.own y)) y (.ins C dx [])) (fun v H2 => v = .non ∧ Q (.ref y) H2) E) := by
  constructor
  intro pins s σ H Q I h
  refine wpAny_Call_Name_kw (ld_glob I hg hm ?_ hdb)
  exact PySem.W.callWith_K0 (first := []) I.kIn M.kp (StX.run_makeR (us := []) (vs := []) M F hr hx I .nil h)
/-- x(*e) -/
theorem pe_makeSG (M : Mk X.K C f) (F : FnR X.prog X.w X.K X.mg X.base CX k f sp) (hr : Room (k + 1) X.A) (hg : Gl X x) (hm : X.mg x = some (.ref C)) (hx : Passes CX X E) (he : PE X e te) (hdb : (x == ("__debug__" : Str)) = false := by decide)
    (hst : starEach [.Starred e q] X.env = [(true, eval e X.env)] := by rfl) : PE X (.Call (.Name x nap) [.Starred e q] [] pos) (fun σ H Q => te σ H fun z H1 => ∃ a xs, z = .ref a ∧ (SqT X.K H1 a xs ∨ SqL X.K H1 a xs) ∧ ∀ y dx, H1 y = none → H1 dx = none → dx ≠ y →
      sp (V.ref y :: xs) (upd (upd H1 dx (.own y)) y (.ins C dx [])) (fun v H2 => v = .non ∧ Q (.ref y) H2) E) := by
  constructor
  intro pins s σ H Q I h
  refine wpAny_Call_Name_kw (ld_glob I hg hm ?_ hdb)
  refine PySem.W.callWith_S (h₀ := X.base) I.ok.mod.kin M.kp (thn (he.run pins s σ H _ I h) fun v s2 ⟨z, H2, I2, rz, a, xs, ez, hxs, h2⟩ => ?_) hst
  subst ez
  obtain rfl : v = Value.ref a := rz
  exact StX.star_any I2 hxs fun us s3 I3 rv => ⟨I3.kIn, StX.run_makeR M F hr hx I3 rv h2⟩
/-- o.m(), m takes any number of things -/
theorem pe_methR0 {pl : Sem Bool} (he : PE X o ta) (c : Cls X.K C) (hm : Meth X.K C m f) (F : FnR X.prog X.w X.K X.mg X.base CX k f sp) (hr : Room k X.A) (hx : Passes CX X E)
    (ht : eval (.Call (.Attribute o m apos) [] [] pos) X.env = (do
      let ov ← eval o X.env
      standAt apos.atName
      let (f, first) ← holding [ov] (getMethod ov m pl)
      callWith pos f first (backTo pos (starEach [] X.env)) (backToKw pos (keywordEach [] X.env))) := by rfl) : PE X (.Call (.Attribute o m apos) [] [] pos) (fun σ H Q => ta σ H fun z H1 => ∃ a dx fs, z = .ref a ∧ H1 a = some (.ins C dx fs) ∧ fs.lookup m = none ∧ sp [.ref a] H1 Q E) := by
  constructor
  intro pins s σ H Q I h
  refine PySem.W.methodCall_KW (pl := pl) (thn (he.run pins s σ H _ I h) fun u s1 ⟨z, H1, I1, rz, a, dx, fs, ez, ea, l, hs⟩ => ?_) ht
  subst ez
  obtain rfl : u = Value.ref a := rz
  exact getmeth_ok I1 ea c hm l (PySem.W.callWith_K0 (first := [.ref a]) I1.kIn hm.kp (wpAny_call (run_fnR (us := [.ref a]) (vs := [.ref a]) F hr hx I1 (.cons rfl .nil) hs)))
/-- C.m(k = v, ..), m a classmethod -/
theorem pe_cmethK {pl : Sem Bool} {gr : List Value → List Value → List Value} {gV : List V → List V → List V} (he : PE X o ta) (r : ClX.CRead X.K C mc) (c : ClX.CMet X.K C mc m p g) (F : FnOk X.prog X.w X.K X.mg X.base CX k g fd ps sp) (hr : Room k X.A) (hb : KBn X.K fd ps 1 ks gr gV) (hx : Passes CX X E) (hkw : PK X kws tks)
    (hall : (backToKw pos (keywordEach kws X.env)).all (·.1.isSome) = true := by rfl) (hks : (backToKw pos (keywordEach kws X.env)).filterMap (·.1) = ks := by rfl) (hpl : ((backTo pos (starEach [] X.env)).any (·.1) || (backToKw pos (keywordEach kws X.env)).any (·.1.isNone)) = false := by rfl)
    (ht : eval (.Call (.Attribute o m apos) [] kws pos) X.env = (do
      let ov ← eval o X.env
      standAt apos.atName
      let (f, first) ← holding [ov] (getMethod ov m pl)
      callWith pos f first (backTo pos (starEach [] X.env)) (backToKw pos (keywordEach kws X.env))) := by rfl) :
    PE X (.Call (.Attribute o m apos) [] kws pos) (fun σ H Q => ta σ H fun z H1 => z = .ref C ∧ tks σ H1 fun zs H2 => zs.length = ks.length ∧ sp (gV [.ref C] zs) H2 Q E) := by
  constructor
  intro pins s σ H Q I h
  refine PySem.W.methodCall_KW (pl := pl) (thn (he.run pins s σ H _ I h) fun u s1 ⟨z, H1, I1, rz, ez, hs⟩ => ?_) ht
  subst ez
  obtain rfl : u = Value.ref C := rz
  refine ClX.getmethcm_ok I1 r c fun s2 I2 => ?_
  refine PySem.W.callWith_of (P := PySem.W.MethP X.K s1.heap.objs.size g (.ref C)) hpl (PySem.W.keeps_M c.fi) (evalArgs_kw2_nil hall (thn (hkw.run pos _ s2 σ H1 _ I2 hs) fun ws s3 ⟨zs, H2, I3, rw', l2, q2⟩ => ⟨⟨ClX.pin_at I3, I3.kIn⟩, ?_⟩))
  rw [hks]
  have z : wpAny (model X.prog X.w) X.A (call (.ref s1.heap.objs.size) [] (ks.zip ws)) (EP X ((s1.heap.objs.size, PySem.W.methodObj (.ref g) (.ref C)) :: pins) σ Q) X.xe s3 := by
    refine wpAny_call (PySem.W.method_call (ClX.pin_at I3) (codeAny_mono (F.run X.A X.stack s3 H2 ⟨[.ref C], ks.zip ws⟩ (gr [.ref C] ws) (gV [.ref C] zs) Q E hr I3.env0 (hb.to s3 [.ref C] ws I3.kIn rfl (by rw [← l2, rw'.length])) (hb.rel (vs := [.ref C]) (us := [.ref C]) (.cons rfl .nil) rw') q2) fun y z hq => ?_))
    cases y with
    | error e => exact hx _ σ H2 s3 e z I3 hq
    | ok fl =>
      cases fl with
      | ret u => exact I3.after hq
      | next => exact hq.elim
      | brk => exact hq.elim
      | cont => exact hq.elim
  exact thn z fun _ _ y => ClX.unpinE y
end
end K2
end
section
set_option Elab.async false
set_option maxRecDepth 100000
set_option linter.all false
namespace K2
open PySem L2
abbrev sIsW : Stmt := top 9
/-- the module's constants -/
structure Gb (K : PySem.W.Frag) (mg : Str → Option Value) (aR : Addr) (t1 t2 : Tok) : Prop where
  long : mg "LONGEST" = some (.int 8 t1)
  res : mg "RESERVED" = some (.ref aR)
  resT : ∀ H : Hp, SqT K H aR (resd.map V.str)
theorem uni : ∀ k, k < 26 → Unicode.isAlpha (97 + k) = true ∧ Unicode.isLower (97 + k) = true ∧ Unicode.isUpper (97 + k) = false ∧ Unicode.isTitle (97 + k) = false := by decide +kernel
theorem uni' {c : Nat} (h : 97 ≤ c ∧ c ≤ 122) : Unicode.isAlpha c = true ∧ Unicode.isLower c = true ∧ Unicode.isUpper c = false ∧ Unicode.isTitle c = false := by
  have := uni (c - 97) (by omega)
  rw [show 97 + (c - 97) = c by omega] at this
  exact this
theorem vw_ascii {x : Str} (h : VW x) : Txt.isascii x = true := by
  unfold Txt.isascii
  rw [← Array.all_toList, List.all_eq_true]
  intro c hc
  have := h.low c hc
  simp
  omega
theorem vw_alpha {x : Str} (h : VW x) : Txt.isalpha x = true := by
  unfold Txt.isalpha
  have hl : x.length > 0 := by
    rw [len_codes]
    exact List.length_pos_iff.mpr h.ne
  rw [← Array.all_toList, decide_eq_true hl, Bool.true_and, List.all_eq_true]
  intro c hc
  exact (uni' (h.low c hc)).1
theorem vw_lower {x : Str} (h : VW x) : Txt.islower x = true := by
  unfold Txt.islower
  rw [← Array.any_toList, ← Array.any_toList, Bool.and_eq_true]
  refine ⟨?_, ?_⟩
  · rw [List.any_eq_true]
    obtain ⟨c, r, e⟩ := List.exists_cons_of_ne_nil h.ne
    have hc : c ∈ x.cps.toList := by
      show c ∈ codes x
      rw [e]
      simp
    exact ⟨c, hc, (uni' (h.low c hc)).2.1⟩
  · rw [Bool.not_eq_true', List.any_eq_false]
    intro c hc
    have := uni' (h.low c hc)
    rw [this.2.2.1, this.2.2.2]
    decide
def spIsW : Sp := fun vs H Q _ => ∃ x : Str, vs = [.str x] ∧ VW x ∧ Q (.bl true) H
def spAreW : Sp := fun vs H Q _ => ∃ (t : Addr) (xs : List Str), vs = [.ref t] ∧ H t = some (.tup (xs.map V.str)) ∧ (∀ x ∈ xs, VW x) ∧ xs.length ≤ 100 ∧ ∀ H', Same H H' → Q (.bl true) H'
abbrev nAreW : List Str := ["xs", "x"]
section
variable {P : Program} {w : World} {K : PySem.W.Frag} {mg : Str → Option Value} {base : Heap}
theorem scIsW : FnScope ["x"] ["x"] (defScope sIsW) := ⟨rfl, rfl, rfl, by decide +kernel, rfl, by decide +kernel, by decide +kernel⟩
theorem ok_isw {f aR : Addr} {t1 t2 : Tok} {fd : FuncData} (F : Fun K "is_word" "is_word" sIsW f fd) (T : Bi mg) (G : Gb K mg aR t1 t2) : FnOk P w K mg base CX0 1 f fd ["x"] spIsW := by
  refine F.ok scIsW (fun vs H Q E h => ?_) (fun cdv A outer s H vs Q E hr h => ?_)
  · obtain ⟨x, rfl, _⟩ := h
    rfl
  · obtain ⟨x, rfl, hx, k⟩ := h
    refine ⟨_, (pss_cons (ps_if (PW.pt (pw_or (pt_not (pt_val (pe_callB call_isi (by rfl) T.isinstance (by decide +kernel) (pa_cons (pv 0) (pa_cons (pe_bltn (v := .ty "str") (by rfl) T.str (by decide +kernel) rfl) pa_nil))))) (pw_or1 (pt_cmpR op_gt (pe_callB call_len_str (by rfl) T.len PySem.boot_len (pa_cons (pv 0) pa_nil)) (pe_glob (v := .int 8) rfl G.long ⟨_, rfl⟩) (nomark _)))))
      (pss_one (ps_ret pe_bl))
      pss_nil)
      (pss_one (ps_ret (pe_and (pe_m0 PySem.F.slot_str_isascii PySem.F.type_str_isascii mt_isascii (pv 0)) (pe_and (pe_m0 PySem.F.slot_str_isalpha PySem.F.type_str_isalpha mt_isalpha (pv 0)) (pe_and (pe_m0 PySem.F.slot_str_islower PySem.F.type_str_islower mt_islower (pv 0)) (pe_one (pe_cmpR op_notIn_seq (pv 0) (pe_glob (v := .ref aR) rfl G.res rfl) rfl)))))))), ?_⟩
    have hl : x.length ≤ 8 := by rw [len_codes]; exact hx.le
    refine ⟨_, rfl, _, _, _, _, true, rfl, .ty _, .base (.str _), kit_ty (by decide +kernel), _, rfl, ?_⟩
    refine ⟨_, rfl, _, rfl, Nat.le_trans hl (by decide), _, _, rfl, rfl, _, rfl, ite2 (fun h8 => ?_) (fun _ => ?_)⟩
    · have := of_decide_eq_true h8
      omega
    refine ⟨_, rfl, ⟨_, rfl⟩, _, rfl, rfl, trivial, _, rfl, ?_⟩
    rw [vw_ascii hx]
    refine iteT ⟨_, rfl, ⟨_, rfl⟩, _, rfl, rfl, trivial, _, rfl, ?_⟩
    rw [vw_alpha hx]
    refine iteT ⟨_, rfl, ⟨_, rfl⟩, _, rfl, rfl, trivial, _, rfl, ?_⟩
    rw [vw_lower hx]
    refine iteT ⟨_, rfl, aR, _, rfl, .inr (G.resT H), rfl, flat_strs _, ?_⟩
    rw [if_pos rfl, inV_strs, decide_eq_false hx.nr]
    exact k
end
end K2
end
section
set_option Elab.async false
set_option maxRecDepth 100000
set_option linter.all false
namespace K2
open PySem L2
theorem _root_.L2.TyX.same {K : PySem.W.Frag} {H H' : Hp} {x : V} {t : Value} (h : TyX K H x t) (s : Same H H') : TyX K H' x t := by
  cases h with
  | base h =>
    cases h with
    | non => exact .base .non
    | bl b => exact .base (.bl b)
    | int i => exact .base (.int i)
    | str y => exact .base (.str y)
    | flt y => exact .base (.flt y)
    | lst e => exact .base (.lst (s _ _ e))
    | frz e => exact .base (.frz (s _ _ e))
    | tup e => exact .base (.tup (s _ _ e))
    | dK e => exact .base (.dK (s _ _ e))
    | dT e => exact .base (.dT (s _ _ e))
    | ins e cl ha hn htk hm => exact .base (.ins (s _ _ e) cl ha hn htk hm)
  | byt b => exact .byt b
  | set e => exact .set (s _ _ e)
  | kList e c => exact .kList e c
  | kTuple e c => exact .kTuple e c
  | kDict e c => exact .kDict e c
  | fTuple e => exact .fTuple (s _ _ e)
  | fDict e => exact .fDict (s _ _ e)
/-- is_word of a text -/
def isW (x : Str) : Bool := !decide (8 < x.length) && (Txt.isascii x && (Txt.isalpha x && (Txt.islower x && !decide (x ∈ resd))))
theorem vw_isW {x : Str} (h : VW x) : isW x = true := by
  have hl : x.length ≤ 8 := by rw [len_codes]; exact h.le
  unfold isW
  rw [vw_ascii h, vw_alpha h, vw_lower h, decide_eq_false h.nr, decide_eq_false (by omega)]
  rfl
theorem long_isW {x : Str} (h : 8 < x.length) : isW x = false := by
  unfold isW
  rw [decide_eq_true h]
  rfl
/-- is_word of a value gives b -/
inductive WdV (K : PySem.W.Frag) (H : Hp) : V → Bool → Prop where
  | str (x : Str) (l : x.length ≤ sizeLine) : WdV K H (.str x) (isW x)
  | no {x : V} {t : Value} (ty : TyX K H x t) (k : PySem.W.kitOne K t (.type "str") = some false) : WdV K H x false
theorem WdV.same {K : PySem.W.Frag} {H H' : Hp} {x : V} {b : Bool} (h : WdV K H x b) (s : Same H H') : WdV K H' x b := by
  cases h with
  | str x l => exact .str x l
  | no ty k => exact .no (ty.same s) k
theorem WdV.vw {K : PySem.W.Frag} {H : Hp} {x : Str} (h : VW x) : WdV K H (.str x) true := by
  have := WdV.str (K := K) (H := H) x (Nat.le_trans (by rw [len_codes]; exact h.le) (by decide : 8 ≤ sizeLine))
  rwa [vw_isW h] at this
def spIsWG (K : PySem.W.Frag) : Sp := fun vs H Q _ => ∃ (x : V) (b : Bool), vs = [x] ∧ WdV K H x b ∧ Q (.bl b) H
/-- what the items of a tuple give -/
def WdAll (K : PySem.W.Frag) (H : Hp) (xs : List V) (bs : List Bool) : Prop := xs.length = bs.length ∧ ∀ (i : Nat) (x : V) (b : Bool), xs[i]? = some x → bs[i]? = some b → WdV K H x b
theorem WdAll.vw {K : PySem.W.Frag} {H : Hp} {xs : List Str} (h : ∀ x ∈ xs, VW x) : WdAll K H (xs.map V.str) (xs.map fun _ => true) :=
  ⟨by simp, fun i x b h1 h2 => by
    rw [List.getElem?_map] at h1 h2
    cases hx : xs[i]? with
    | none => rw [hx] at h1; cases h1
    | some y =>
      rw [hx] at h1 h2
      cases h1
      cases h2
      exact .vw (h y (List.mem_of_getElem? hx))⟩
def spAreWG (K : PySem.W.Frag) : Sp := fun vs H Q _ => ∃ (t : Addr) (xs : List V) (bs : List Bool), vs = [.ref t] ∧ H t = some (.tup xs) ∧ WdAll K H xs bs ∧ xs.length ≤ 100 ∧ ∀ H', Same H H' → Q (.bl (bs.all id)) H'
section
variable {P : Program} {w : World} {K : PySem.W.Frag} {mg : Str → Option Value} {base : Heap}
theorem ok_iswG {f aR : Addr} {t1 t2 : Tok} {fd : FuncData} (F : Fun K "is_word" "is_word" sIsW f fd) (T : Bi mg) (G : Gb K mg aR t1 t2) : FnOk P w K mg base CX0 1 f fd ["x"] (spIsWG K) := by
  refine F.ok scIsW (fun vs H Q E h => ?_) (fun cdv A outer s H vs Q E hr h => ?_)
  · obtain ⟨x, b, rfl, _⟩ := h
    rfl
  · obtain ⟨x, b, rfl, hx, k⟩ := h
    refine ⟨_, (pss_cons (ps_if (PW.pt (pw_or (pt_not (pt_val (pe_callB call_isi (by rfl) T.isinstance (by decide +kernel) (pa_cons (pv 0) (pa_cons (pe_bltn (v := .ty "str") (by rfl) T.str (by decide +kernel) rfl) pa_nil))))) (pw_or1 (pt_cmpR op_gt (pe_callB call_len_str (by rfl) T.len PySem.boot_len (pa_cons (pv 0) pa_nil)) (pe_glob (v := .int 8) rfl G.long ⟨_, rfl⟩) (nomark _)))))
      (pss_one (ps_ret pe_bl))
      pss_nil)
      (pss_one (ps_ret (pe_and (pe_m0 PySem.F.slot_str_isascii PySem.F.type_str_isascii mt_isascii (pv 0)) (pe_and (pe_m0 PySem.F.slot_str_isalpha PySem.F.type_str_isalpha mt_isalpha (pv 0)) (pe_and (pe_m0 PySem.F.slot_str_islower PySem.F.type_str_islower mt_islower (pv 0)) (pe_one (pe_cmpR op_notIn_seq (pv 0) (pe_glob (v := .ref aR) rfl G.res rfl) rfl)))))))), ?_⟩
    cases hx with
    | no ty kk => exact ⟨_, rfl, _, _, _, _, false, rfl, .ty _, ty, kk, _, rfl, iteT k⟩
    | str x hl =>
      refine ⟨_, rfl, _, _, _, _, true, rfl, .ty _, .base (.str _), kit_ty (by decide +kernel), _, rfl, ?_⟩
      refine ⟨_, rfl, _, rfl, hl, _, _, rfl, rfl, _, rfl, ite2 (fun h8 => ?_) (fun h8 => ?_)⟩
      · have h8 := of_decide_eq_true h8
        rw [long_isW (by omega)] at k
        exact k
      have h8 : ¬ 8 < x.length := fun q => h8 (decide_eq_true (by omega))
      have e : isW x = (Txt.isascii x && (Txt.isalpha x && (Txt.islower x && !decide (x ∈ resd)))) := by
        unfold isW
        rw [decide_eq_false h8]
        rfl
      rw [e] at k
      refine ⟨_, rfl, ⟨_, rfl⟩, _, rfl, rfl, trivial, _, rfl, ?_⟩
      cases h1 : Txt.isascii x with
      | false => rw [h1] at k; exact iteF k
      | true =>
        rw [h1] at k
        refine iteT ⟨_, rfl, ⟨_, rfl⟩, _, rfl, rfl, trivial, _, rfl, ?_⟩
        cases h2 : Txt.isalpha x with
        | false => rw [h2] at k; exact iteF k
        | true =>
          rw [h2] at k
          refine iteT ⟨_, rfl, ⟨_, rfl⟩, _, rfl, rfl, trivial, _, rfl, ?_⟩
          cases h3 : Txt.islower x with
          | false => rw [h3] at k; exact iteF k
          | true =>
            rw [h3] at k
            refine iteT ⟨_, rfl, aR, _, rfl, .inr (G.resT H), rfl, flat_strs _, ?_⟩
            rw [if_pos rfl, inV_strs]
            exact k
end
/-! ### NoClass -/
def spNCI (C : Addr) : Sp := fun vs H Q _ => ∃ (a : Addr) (v1 v2 : V), vs = [.ref a, v1, v2] ∧ H a = some (exo a C none) ∧
  ∀ (d : Addr) (H' : Hp), H d = none → d ≠ a → H' a = some (exo a C (some d)) → H' d = some (exd d [("place", v2), ("reason", v1)]) → (∀ b o, H b = some o → b ≠ a → H' b = some o) → Q .non H'
structure NC (K : PySem.W.Frag) (mg : Str → Option Value) (C fI : Addr) : Prop where
  oex : OexC K C
  n1 : PySem.W.findIn K (.ref C) "reason" = some none
  n2 : PySem.W.findIn K (.ref C) "place" = some none
  iC : PySem.W.findIn K (.ref C) "__init__" = some (some (.ref fI))
  tI : PySem.W.typeIn K (.ref fI) = some (.type "function")
  gC : mg "NoClass" = some (.ref C)
section
variable {P : Program} {w : World} {K : PySem.W.Frag} {mg : Str → Option Value} {base : Heap}
end
end K2
end
section
set_option Elab.async false
set_option maxRecDepth 100000
set_option linter.all false
/-! dicts whose keys are flat tuples of texts, ints and None -/
namespace LfX
open PySem PySem.Spec PyProof.Rows L2
def leafV : PySem.Leaf → V
  | .none => .non
  | .num i => .int i
  | .text x => .str x
abbrev LKey := List PySem.Leaf
abbrev LEnt := LKey × Addr × Value
/-- the dict's own object: the keys' tuples are told apart -/
def LfO (P : Program) (w : World) (d : Addr) (xs : List LEnt) : HO := .ext fun h => ∃ o es ep, h.get? d = some o ∧ o.ExactDict ∧ o.data = .dict es ep ∧ es.toList = xs.map (entryOfKey (tupleKind (PySem.leafKind P w))) ∧ (xs.map (·.1)).Nodup
structure LDict (P : Program) (w : World) (H : Hp) (d : Addr) (xs : List LEnt) : Prop where
  at_ : H d = some (LfO P w d xs)
  keys : ∀ x ∈ xs, H x.2.1 = some (.tup (x.1.map leafV))
  sys : (d == sysModules) = false
  le : xs.length ≤ sizeLine
section
variable {P : Program} {w : World} {H H' : Hp} {h : Heap} {d a : Addr} {xs : List LEnt}
theorem leaf_is {k : PySem.Leaf} {u : Value} (r : RelV (leafV k) u) : (PySem.leafKind P w).is k u = true := by
  cases k with
  | none =>
    obtain rfl : u = Value.none := r
    rfl
  | num i =>
    obtain ⟨t, rfl⟩ := r
    exact decide_eq_true rfl
  | text x =>
    obtain ⟨t, rfl⟩ := r
    show (x == x) = true
    simp
theorem leaves_are : ∀ {ks : LKey} {us : List Value}, Vals (ks.map leafV) us → ItemsAre (PySem.leafKind P w) ks us
  | [], _, r => by rw [List.map_nil] at r; cases r; exact .nil
  | k :: ks, _, r => by
    rw [List.map_cons] at r
    cases r with
    | cons h t => exact .cons (leaf_is h) (leaves_are t)
theorem lkey_of {ks : LKey} (ok : HOk P w H h) (e : H a = some (.tup (ks.map leafV))) : (tupleKind (PySem.leafKind P w)).is h ks a := by
  obtain ⟨_, its, r, o, h1, h2, n, h3⟩ := (show ObjOk P w H h a (.tup (ks.map leafV)) from ok a _ e)
  exact ⟨o, its.toArray, n, h1, h2, h3, by simpa using leaves_are r⟩
theorem ldict_of (D : LDict P w H d xs) (ok : HOk P w H h) : h.DictOfH (tupleKind (PySem.leafKind P w)) d xs := by
  obtain ⟨⟨o, es, ep, h1, h2, h3, h4, h5⟩, _⟩ := (show ObjOk P w H h d (LfO P w d xs) from ok d _ D.at_)
  exact ⟨o, es, ep, h1, h2, h3, h4, fun x hx => lkey_of ok (D.keys x hx), h5⟩
theorem lfo_ok {h' : Heap} {H2 : Hp} (dd : h'.DictOfH (tupleKind (PySem.leafKind P w)) d xs) : ObjOk P w H2 h' d (LfO P w d xs) := by
  obtain ⟨o, es, ep, h1, h2, h3, h4, _, h5⟩ := dd
  refine ⟨⟨o, es, ep, h1, h2, h3, h4, h5⟩, ⟨o, h1⟩, fun g1 g2 ⟨o1, es1, ep1, q1, q2, q3, q4, q5⟩ kp => ⟨o1, es1, ep1, kp _ q1, q2, q3, q4, q5⟩⟩
theorem LDict.mono (D : LDict P w H d xs) (s : ∀ b o, H b = some o → H' b = some o) : LDict P w H' d xs := ⟨s _ _ D.at_, fun x hx => s _ _ (D.keys x hx), D.sys, D.le⟩
end
section
variable {X : Cx} {pins : List (Addr × Obj)} {σ : L2.St} {H : Hp} {s : Shared} {d a b : Addr} {xs : List LEnt} {A : Around} {E : Value → Shared → Prop}
theorem ld_in {ks : LKey} {Q : Value → Shared → Prop} (hu : A.units + 1 < cLine) (I : Inv X pins σ H s) (D : LDict X.prog X.w H d xs) (eb : H b = some (.tup (ks.map leafV))) (h : ∀ s', Inv X pins σ H s' → Q (.bool (atKey xs ks).isSome) s') :
    wpAny (model X.prog X.w) A (compareOp .In (.ref b) (.ref d)) Q E s := by
  refine wpAny_in_heap (tupleKind_room_in1 hu) (lkey_of I.hok eb) D.sys (ldict_of D I.hok) ?_
  exact h _ (I.tok _)
theorem ld_set {ks : LKey} {r : Value} {Q : Unit → Shared → Prop} (hu : A.units < cLine) (I : Inv X pins σ H s) (D : LDict X.prog X.w H d xs) (eb : H b = some (.tup (ks.map leafV))) (hl : xs.length < sizeLine)
    (h : ∀ s' H', Inv X pins σ H' s' → H' = upd H d (LfO X.prog X.w d (storedH xs ks b r)) → Q () s') : wpAny (model X.prog X.w) A (dictSet d (.ref b) r) Q E s := by
  refine wpAny_dictSet_heap (knd := tupleKind (PySem.leafKind X.prog X.w)) hu (lkey_of I.hok eb) (ldict_of D I.hok) (fun h' dd hs => ?_) (Nat.le_of_lt hl)
  have he : ∃ q, h'.get? d = some q := let ⟨q, _, _, hq, _⟩ := dd; ⟨q, hq⟩
  exact h _ _ (d_write I (by rw [D.at_]; exact True.intro) hs he (lfo_ok dd)) rfl
end
end LfX
end
section
set_option Elab.async false
set_option maxRecDepth 100000
set_option linter.all false
/-! list(d) of such a dict -/
namespace LfX
open PySem PySem.Spec PyProof.Rows L2
/-- list(d) -/
def rListL (P : Program) (w : World) : List V → Hp → VK → Prop := fun us H Q => ∃ d xs, us = [.ref d] ∧ LDict P w H d xs ∧ ∀ q, H q = none → Q (.ref q) (upd H q (.lst (xs.map fun x => V.ref x.2.1)))
theorem call_list_L {X : Cx} (hc : X.calm = true) : CallR X (.type "list") (rListL X.prog X.w) := by
  intro pins s σ H vs us Q I r h
  obtain ⟨d, xs, rfl, D, q⟩ := h
  obtain ⟨u, rfl, ru⟩ := r.one
  obtain rfl : u = Value.ref d := ru
  obtain ⟨o, es, ep, h1, h2, h3, h4, h5, h6⟩ := ldict_of D I.hok
  have hsz : es.size = xs.length := by
    have := congrArg List.length h4
    rw [Array.length_toList, List.length_map] at this
    exact this
  refine PySem.W.kdl_call (KdlSrc.rawDict (es := es) (ep := ep) D.sys) (I.ok.hd hc) ⟨o, h1, h2, h3⟩ (by rw [hsz]; exact D.le) fun h' tk acc' c' hkeep hS hacc => ?_
  obtain ⟨hl, hi⟩ := hacc
  refine ⟨.ref s.heap.objs.size, upd H s.heap.objs.size (.lst (xs.map fun x => V.ref x.2.1)), I.laid hkeep (Nat.le_refl _) ⟨?_, acc'.toList, c', ?_, ?_⟩, rfl, q _ (I.hok.fresh (Nat.le_refl _))⟩
  · rw [List.length_map]; exact D.le
  · have el : acc'.toList.length = acc'.size := by simp
    refine vals_of_at (by rw [List.length_map, el, hl, hsz]) fun j x w e1 e2 => ?_
    obtain ⟨hij, hk⟩ := hi j w (by rw [← Array.getElem?_toList]; exact e2)
    rw [List.getElem?_map] at e1
    have e3 : es[j]? = (xs[j]?).map (entryOfKey (tupleKind (PySem.leafKind X.prog X.w))) := entry_at h4 j
    rw [Array.getElem?_eq_getElem hij] at e3
    cases hx : xs[j]? with
    | none => rw [hx] at e1; cases e1
    | some y =>
      rw [hx] at e1 e3
      cases e1
      have e4 : es[j] = entryOfKey (tupleKind (PySem.leafKind X.prog X.w)) y := Option.some.inj e3
      rw [hk, e4]
      rfl
  · simpa using hS
end LfX
end
section
set_option Elab.async false
set_option maxRecDepth 100000
set_option linter.all false
set_option pp.maxSteps 200
/-! {k: v for target in iter if ..}, keys flat tuples: a new dict of them -/
namespace LfX
open PySem PySem.Spec PyProof.Rows L2
section
variable {X : Cx}
def tDcL (P : Program) (w : World) (wi : TI) (g : TG) (tt : TT) (tk tv : TE) (vs : List Nat) : TE := fun σ H Q => wi σ H fun J H1 => ∀ D, H1 D = none → (D == sysModules) = false → ∃ W : Nat → Nat → Hp → Prop, (∃ m, W 0 m (upd H1 D (LfO P w D []))) ∧ ∀ i m H, W i m H →
  (J.stop i H ∧ Q (.ref D) H) ∨ (J.go i H ∧ ∃ Nx : Hp → Prop, (∀ H', Nx H' → ∃ m', m' < m ∧ W (i + 1) m' H') ∧ ∀ x H', J.yld i H x H' → g x (wipe σ vs) H' fun σ2 H2 => wipe σ2 vs = wipe σ vs ∧ tt σ2 H2 fun b H3 =>
    if b = true then tk σ2 H3 fun y H4 => tv σ2 H4 fun z H5 => ∃ (q : Addr) (ks : LKey) (xs : List LEnt), y = .ref q ∧ H5 q = some (.tup (ks.map leafV)) ∧ LDict P w H5 D xs ∧ xs.length < sizeLine ∧ ∀ r, RelV z r → Nx (upd H5 D (LfO P w D (storedH xs ks q r))) else Nx H3)
theorem lfo_new {P : Program} {w : World} {H : Hp} (h : Heap) : ObjOk P w H (h.push { cls := .type "dict", data := .dict #[] }) h.objs.size (LfO P w h.objs.size []) := lfo_ok (Heap.DictOfH.new h)
theorem dcL_core {pins : List (Addr × Obj)} {s : Shared} {σ : L2.St} {H : Hp} {Q : VK} {kx vx tg iter : Expr} {ifs : List Expr} {scope : Scope} {own : List (Str × Nat)} {pos pos' : Pos} {wi : TI} {g : TG} {tt : TT} {tk tv : TE} {use : Option (Value → Sem Unit)} {Qf : Value → Shared → Prop}
    (hc : X.calm = true) (hu : X.A.units < cLine) (hN : X.N.Nodup) (I : Inv X pins σ H s) (hi : PI X tg iter wi) (ok : BlkOk X.N X.env.scope scope own)
    (hg : ∀ (s : Shared) (H : Hp) (C : Addr) (cl : List (Str × Addr)) (fp : List Addr), PG (X.blk s H scope (compEnvC scope cl C X.env) fp) tg g) (ht : ∀ (s : Shared) (H : Hp) (C : Addr) (cl : List (Str × Addr)) (fp : List Addr), PTs (X.blk s H scope (compEnvC scope cl C X.env) fp) ifs tt)
    (hk : ∀ (s : Shared) (H : Hp) (C : Addr) (cl : List (Str × Addr)) (fp : List Addr), PE (X.blk s H scope (compEnvC scope cl C X.env) fp) kx tk)
    (he : ∀ (s : Shared) (H : Hp) (C : Addr) (cl : List (Str × Addr)) (fp : List Addr), PE (X.blk s H scope (compEnvC scope cl C X.env) fp) vx tv) (hs : ∀ x, foldedSetIterable iter X.env x = pure x)
    (h : tDcL X.prog X.w wi g tt tk tv (own.map (·.2)) σ H Q)
    (hRR : ∀ D C s' m H', Inv X pins σ H' s' → Q (.ref D) H' → s'.heap.Ns C m → FpOk X pins H' C → compPost (model X.prog X.w) X.A X.xe use Qf (.ref D) C (.ok .next) s') :
    wpAny (model X.prog X.w) X.A (comprehension (.DictComp kx vx [⟨tg, iter, ifs, 0⟩] scope pos) scope X.env pos' newDict false (eval iter X.env) use) Qf X.xe s := by
  have free : ∀ y ∈ scope.names, y.2 = .free → ∃ c, X.env.cells.lookup y.1 = some c := fun y hy e => (ok.free y hy e).elim (fun k => I.ok.has _ (.inl k)) fun k => I.ok.has _ (.inr k)
  refine wpAny_comprehension_free (use := use) rfl hs (closure_ok free) ok.kind (fun y hy e => by rw [ok.uniq y hy, e]) (thn (hi.run pins s σ H _ I h) fun xv s1 hx => thn hx fun itv s2 h2 => ?_)
  obtain ⟨it, fp, tn, J, H2, e, I2, T, st2, f2, q⟩ := h2
  subst e
  refine wpAny_newObj_type (newEnv_comp ?_)
  have sysD : (s2.heap.objs.size == sysModules) = false := by
    have := I2.big
    simp only [beq_eq_false_iff_ne, ne_eq]
    exact Nat.ne_of_gt this
  have fpLt : ∀ b ∈ fp, b < s2.heap.objs.size := fun b hb => let ⟨o, e, _⟩ := T.obj _ _ st2 b hb; Heap.lt_size e
  obtain ⟨D, eD⟩ : ∃ D, D = s2.heap.objs.size := ⟨_, rfl⟩
  obtain ⟨W, ⟨m0, w0⟩, turn⟩ := q D (I2.hok.fresh (Nat.le_of_eq eD.symm)) (by rw [eD]; exact sysD)
  obtain ⟨s3, e3⟩ : ∃ s3 : Shared, s3 = { s2 with heap := s2.heap.push { cls := .type "dict", data := .dict #[] } } := ⟨_, rfl⟩
  have hp3 : s3.heap = s2.heap.push { cls := .type "dict", data := .dict #[] } := by rw [e3]
  have I3 : Inv X pins σ (upd H2 D (LfO X.prog X.w D [])) s3 := by
    rw [e3, eD]
    exact I2.laid (t' := s2.toks) (fun b o e => Heap.get?_push_of_some _ e) (Nat.le_refl _) (lfo_new s2.heap)
  have f3 : ∀ b ∈ fp, FpOk X pins (upd H2 D (LfO X.prog X.w D [])) b ∧ b < s3.heap.objs.size := fun b hb => by
    have lt := fpLt b hb
    refine ⟨⟨?_, (f2 b hb).2⟩, by rw [hp3, Heap.size_push]; exact Nat.lt_succ_of_lt lt⟩
    rw [upd_ne (by rw [eD]; exact Nat.ne_of_lt lt)]
    exact (f2 b hb).1
  have st3 : tn 0 s3.heap := T.keep _ _ _ st2 fun b _ o e => by rw [hp3]; exact Heap.get?_push_of_some _ e
  obtain ⟨H3, eH3⟩ : ∃ H3, H3 = upd H2 D (LfO X.prog X.w D []) := ⟨_, rfl⟩
  rw [← eH3] at I3 f3 w0
  have I4 := block_start I3 ok hN f3
  have pg := hg s3 H3 s3.heap.objs.size (cellsFrom (s3.heap.objs.size + 1) scope.names (cloFrom X.env.cells scope.names [])) fp
  have pt := ht s3 H3 s3.heap.objs.size (cellsFrom (s3.heap.objs.size + 1) scope.names (cloFrom X.env.cells scope.names [])) fp
  have pk := hk s3 H3 s3.heap.objs.size (cellsFrom (s3.heap.objs.size + 1) scope.names (cloFrom X.env.cells scope.names [])) fp
  have pe := he s3 H3 s3.heap.objs.size (cellsFrom (s3.heap.objs.size + 1) scope.names (cloFrom X.env.cells scope.names [])) fp
  rw [← eD, ← e3]
  show codeAny _ _ (.compStart (.DictComp kx vx [⟨tg, iter, ifs, 0⟩] scope pos) 0 (.ref it) (.ref D) (compEnvC scope (cellsFrom (s3.heap.objs.size + 1) scope.names (cloFrom X.env.cells scope.names [])) s3.heap.objs.size X.env)) (compPost (model X.prog X.w) X.A X.xe use Qf (.ref D) s3.heap.objs.size) { s3 with heap := pushCells (s3.heap.push { cls := .type "dict", data := .dict #[] }) scope.names }
  have cL : (compEnvC scope (cellsFrom (s3.heap.objs.size + 1) scope.names (cloFrom X.env.cells scope.names [])) s3.heap.objs.size X.env).locals = s3.heap.objs.size := rfl
  generalize compEnvC scope (cellsFrom (s3.heap.objs.size + 1) scope.names (cloFrom X.env.cells scope.names [])) s3.heap.objs.size X.env = ce at I4 pg pt pk pe cL ⊢
  obtain ⟨s4, e4⟩ : ∃ s4 : Shared, s4 = { s3 with heap := pushCells (s3.heap.push { cls := .type "dict", data := .dict #[] }) scope.names } := ⟨_, rfl⟩
  rw [← e4] at I4 ⊢
  have st4 : tn 0 s4.heap := T.keep _ _ _ st3 fun b _ o e => by rw [e4]; exact pushCells_keeps _ _ _ _ (Heap.get?_push_of_some _ e)
  have nfp : ∀ b ∈ fp, H3 b = none := fun b hb => (f3 b hb).1.1
  have stat : ∀ {σ' : L2.St} {H' : Hp} {s' : Shared}, Inv (X.blk s3 H3 scope ce fp) [] σ' H' s' → (∀ b ∈ fp, H' b = none) → ∀ b ∈ fp, FpOk (X.blk s3 H3 scope ce fp) [] H' b := fun {σ' H' s'} I' hn b hb =>
    ⟨hn b hb, (I'.ok.exf b hb).1, I'.ok.exfs b hb, .inl hb, fun x c e => (I'.ok.exf b hb).2 x c e, fun p hp => absurd (show p ∈ ([] : List (Addr × Obj)) ++ [] from hp) (by simp)⟩
  have loop : codeAny (model X.prog X.w) X.A (.compLoop (.DictComp kx vx [⟨tg, iter, ifs, 0⟩] scope pos) 0 (.ref it) (.ref D) ce) (compPost (model X.prog X.w) X.A X.xe use Qf (.ref D) s3.heap.objs.size) s4 := by
    refine compLoop_anyD (fun n s' => ∃ i H', Inv (X.blk s3 H3 scope ce fp) [] (wipe σ (own.map (·.2))) H' s' ∧ tn i s'.heap ∧ (∀ b ∈ fp, H' b = none) ∧ W i n H') ?_ m0 ⟨0, H3, I4, st4, nfp, w0⟩
    rintro n s5 ⟨i, H5, I5, st5, n5, w5⟩
    rcases turn i n H5 w5 with ⟨stop, done⟩ | ⟨go, Nx, hNx, step⟩
    · refine thnF (T.done (X.blk s3 H3 scope ce fp) rfl rfl rfl hc i [] s5 _ H5 (fun _ _ => False) I5 (stat I5 n5) st5 stop) fun r s6 ⟨hr, I6⟩ => ?_
      subst hr
      have I7 : Inv X pins σ H5 s6 := I3.call' (ch := fp) I6.os I6.base I6.hok I6.bare fun b hb => ⟨(f3 b hb).1.2.2.2.1, (f3 b hb).1.2.1, (f3 b hb).1.2.2.2.2.1, (f3 b hb).1.2.2.2.2.2⟩
      have nC : H5 ce.locals = none := I6.free
      rw [cL] at nC
      obtain ⟨m, hn, _⟩ := I6.loc
      have hn : s6.heap.Ns ce.locals m := hn
      rw [cL] at hn
      exact hRR D s3.heap.objs.size s6 m H5 I7 done hn (I3.fpOk (Nat.le_refl _) nC)
    · refine thnF (T.item (X.blk s3 H3 scope ce fp) rfl rfl rfl hc i [] s5 _ H5 (fun _ _ => False) I5 (stat I5 n5) st5 go) fun r s6 ⟨u, hr, h6⟩ => ?_
      subst hr
      refine thnF h6 fun _ s7 ⟨x, H7, I7, r7, y7, st7, n7⟩ => ?_
      refine thnF (pg.run _ s7 _ H7 x u _ (I7.pinned (stat I7 n7) (T.obj _ _ st7)) r7 (step x H7 y7)) fun _ s8 ⟨σ8, H8, I8, hw8, q8⟩ => ?_
      refine thnF (pt.run _ s8 σ8 H8 _ I8 q8) fun b s9 ⟨H9, I9, q9⟩ => ?_
      have fin : ∀ {s' : Shared} {H' : Hp}, Inv (X.blk s3 H3 scope ce fp) ([] ++ pinsAt fp s7.heap) σ8 H' s' → Nx H' → ∃ m, m < n ∧ ∃ i H', Inv (X.blk s3 H3 scope ce fp) [] (wipe σ (own.map (·.2))) H' s' ∧ tn i s'.heap ∧ (∀ b ∈ fp, H' b = none) ∧ W i m H' := fun {s' H'} I' nx => by
        obtain ⟨m', hm, w'⟩ := hNx H' nx
        have pin' : ∀ b ∈ fp, ∀ o, s7.heap.get? b = some o → s'.heap.get? b = some o ∧ H' b = none := fun b hb o e => let z := I'.pin (b, o) (List.mem_append_right _ (List.mem_append_right _ (mem_pinsAt hb e))); ⟨z.1, z.2.1⟩
        refine ⟨m', hm, i + 1, H', (I'.unpinned (pins := [])).weak (by rw [← hw8, wipe_length]) (fun j v e => ?_), T.keep _ _ _ st7 fun b hb o e => (pin' b hb o e).1, fun b hb => ?_, w'⟩
        · rw [← hw8] at e
          exact (wipe_some e).1
        · obtain ⟨o, e, _⟩ := T.obj _ _ st7 b hb
          exact (pin' b hb o e).2
      cases b with
      | false =>
        simp only [Bool.false_eq_true, if_false] at q9 ⊢
        exact fin I9 q9
      | true =>
        simp only [if_true] at q9 ⊢
        refine thnF (pk.run _ s9 σ8 H9 _ I9 q9) fun z s10 ⟨yk, H10, I10, r10, q10⟩ => ?_
        refine thnF (pe.run _ s10 σ8 H10 _ I10 q10) fun z2 s11 ⟨yv, H11, I11, r11, q, ks, xs, ek, hq, LD, hz, nx⟩ => ?_
        subst ek
        obtain rfl : z = Value.ref q := r10
        exact ld_set (X := X.blk s3 H3 scope ce fp) hu I11 LD hq hz fun s12 H12 I12 e12 => by subst e12; exact fin I12 (nx _ r11)
  exact codeAny_compStart_dict loop (T.self X.A 0 _ _ _ st4 loop)
/-- as a value -/
theorem pe_dcL {kx vx tg iter : Expr} {ifs : List Expr} {scope : Scope} {own : List (Str × Nat)} {pos : Pos} {wi : TI} {g : TG} {tt : TT} {tk tv : TE} (hu : X.A.units < cLine) (hc : X.calm = true) (hN : X.N.Nodup) (hi : PI X tg iter wi) (ok : BlkOk X.N X.env.scope scope own)
    (hg : ∀ (s : Shared) (H : Hp) (C : Addr) (cl : List (Str × Addr)) (fp : List Addr), PG (X.blk s H scope (compEnvC scope cl C X.env) fp) tg g) (ht : ∀ (s : Shared) (H : Hp) (C : Addr) (cl : List (Str × Addr)) (fp : List Addr), PTs (X.blk s H scope (compEnvC scope cl C X.env) fp) ifs tt)
    (hk : ∀ (s : Shared) (H : Hp) (C : Addr) (cl : List (Str × Addr)) (fp : List Addr), PE (X.blk s H scope (compEnvC scope cl C X.env) fp) kx tk)
    (he : ∀ (s : Shared) (H : Hp) (C : Addr) (cl : List (Str × Addr)) (fp : List Addr), PE (X.blk s H scope (compEnvC scope cl C X.env) fp) vx tv) (hs : ∀ x, foldedSetIterable iter X.env x = pure x := by intro _; rfl) :
    PE X (.DictComp kx vx [⟨tg, iter, ifs, 0⟩] scope pos) (tDcL X.prog X.w wi g tt tk tv (own.map (·.2))) := by
  refine ⟨fun pins s σ H Q I h => ?_⟩
  rw [arm_eval_DictComp]
  refine dcL_core hc hu hN I hi ok hg ht hk he hs h fun D C s' m H' I' q hn f => ⟨m, hn, fun h'' sb => ?_⟩
  obtain ⟨f0, f1, f2, f3, f4, f5⟩ := f
  exact ⟨.ref D, H', I'.turned (t' := s'.toks) (fun b o hb e => (sb.2 b hb).trans e) f0 f1 f3 f4 f5, rfl, q⟩
end
end LfX
end
section
set_option Elab.async false
set_option maxRecDepth 100000
set_option linter.all false
set_option pp.maxSteps 200
/-! x in d; such a dict built over a tuple or a list that stays -/
namespace LfX
open PySem PySem.Spec PyProof.Rows L2
theorem atKey_mem (xs : List LEnt) (ks : LKey) : (atKey xs ks).isSome = decide (ks ∈ xs.map (·.1)) := by
  induction xs with
  | nil => rfl
  | cons x xs ih =>
    by_cases h : x.1 = ks
    · simp [atKey, h]
    · have h2 : ¬ ks = x.1 := fun e => h e.symm
      have ih : (atKey xs ks).isSome = decide (ks ∈ xs.map (·.1)) := ih
      rw [List.map_cons]
      simp only [List.mem_cons, h2, false_or]
      rw [← ih]
      simp [atKey, h]
def rInL (P : Program) (w : World) (neg : Bool) : R2 := fun x y H Q => ∃ (q d : Addr) (ks : LKey) (xs : List LEnt), x = .ref q ∧ y = .ref d ∧ H q = some (.tup (ks.map leafV)) ∧ LDict P w H d xs ∧ Q (.bl (if neg then !decide (ks ∈ xs.map (·.1)) else decide (ks ∈ xs.map (·.1)))) H
section
variable {X : Cx}
theorem op_inL (hu : X.A.units + 1 < cLine) : OpR X (compareOp .In) (rInL X.prog X.w false) := by
  intro pins s σ H x y v u Q I rx ry h
  obtain ⟨q, d, ks, xs, rfl, rfl, hq, D, k⟩ := h
  obtain rfl : v = Value.ref q := rx
  obtain rfl : u = Value.ref d := ry
  refine ld_in hu I D hq fun s' I' => ⟨.bl _, H, I', rfl, ?_⟩
  rw [atKey_mem]
  exact k
/-- over a list that stays -/
theorem dcL_list {P : Program} {w : World} {K : PySem.W.Frag} {a : Addr} {ys : List V} {g : TG} {tt : TT} {tk tv : TE} {vs : List Nat} {σ : L2.St} {H1 : Hp} {D : Addr} {Qd : Hp → Prop} (Pv : Nat → Hp → Prop) (h0 : Pv 0 (upd H1 D (LfO P w D []))) (hl : ∀ i H, i ≤ ys.length → Pv i H → SqL K H a ys)
    (hs : ∀ i x H, ys[i]? = some x → Pv i H → g x (wipe σ vs) H fun σ2 H2 => wipe σ2 vs = wipe σ vs ∧ tt σ2 H2 fun b H3 =>
      if b = true then tk σ2 H3 fun y H4 => tv σ2 H4 fun z H5 => ∃ (q : Addr) (ks : LKey) (xs : List LEnt), y = .ref q ∧ H5 q = some (.tup (ks.map leafV)) ∧ LDict P w H5 D xs ∧ xs.length < sizeLine ∧ ∀ r, RelV z r → Pv (i + 1) (upd H5 D (LfO P w D (storedH xs ks q r))) else Pv (i + 1) H3) (hd : ∀ H, Pv ys.length H → Qd H) :
    ∃ W : Nat → Nat → Hp → Prop, (∃ m, W 0 m (upd H1 D (LfO P w D []))) ∧ ∀ i m H, W i m H →
      ((Itl K a).stop i H ∧ Qd H) ∨ ((Itl K a).go i H ∧ ∃ Nx : Hp → Prop, (∀ H', Nx H' → ∃ m', m' < m ∧ W (i + 1) m' H') ∧ ∀ x H', (Itl K a).yld i H x H' → g x (wipe σ vs) H' fun σ2 H2 => wipe σ2 vs = wipe σ vs ∧ tt σ2 H2 fun b H3 =>
        if b = true then tk σ2 H3 fun y H4 => tv σ2 H4 fun z H5 => ∃ (q : Addr) (ks : LKey) (xs : List LEnt), y = .ref q ∧ H5 q = some (.tup (ks.map leafV)) ∧ LDict P w H5 D xs ∧ xs.length < sizeLine ∧ ∀ r, RelV z r → Nx (upd H5 D (LfO P w D (storedH xs ks q r))) else Nx H3) := by
  refine ⟨fun i m H => m = ys.length - i ∧ i ≤ ys.length ∧ Pv i H, ⟨ys.length, by simp, Nat.zero_le _, h0⟩, ?_⟩
  rintro i m H ⟨rfl, hi, p⟩
  have q := hl i H hi p
  by_cases hlt : i < ys.length
  · refine .inr ⟨⟨ys, ys[i], q, by simp [hlt]⟩, Pv (i + 1), fun H' p' => ⟨ys.length - (i + 1), by omega, rfl, hlt, p'⟩, fun x H' y => ?_⟩
    obtain ⟨e, y⟩ := y
    subst e
    exact hs i x _ (y ys q) p
  · have e : i = ys.length := by omega
    subst e
    exact .inl ⟨⟨ys, q, Nat.le_refl _⟩, hd H p⟩
/-- over a tuple that stays -/
theorem dcL_tup {P : Program} {w : World} {K : PySem.W.Frag} {a : Addr} {ys : List V} {g : TG} {tt : TT} {tk tv : TE} {vs : List Nat} {σ : L2.St} {H1 : Hp} {D : Addr} {Qd : Hp → Prop} (Pv : Nat → Hp → Prop) (h0 : Pv 0 (upd H1 D (LfO P w D []))) (hl : ∀ i H, i ≤ ys.length → Pv i H → SqT K H a ys)
    (hs : ∀ i x H, ys[i]? = some x → Pv i H → g x (wipe σ vs) H fun σ2 H2 => wipe σ2 vs = wipe σ vs ∧ tt σ2 H2 fun b H3 =>
      if b = true then tk σ2 H3 fun y H4 => tv σ2 H4 fun z H5 => ∃ (q : Addr) (ks : LKey) (xs : List LEnt), y = .ref q ∧ H5 q = some (.tup (ks.map leafV)) ∧ LDict P w H5 D xs ∧ xs.length < sizeLine ∧ ∀ r, RelV z r → Pv (i + 1) (upd H5 D (LfO P w D (storedH xs ks q r))) else Pv (i + 1) H3) (hd : ∀ H, Pv ys.length H → Qd H) :
    ∃ W : Nat → Nat → Hp → Prop, (∃ m, W 0 m (upd H1 D (LfO P w D []))) ∧ ∀ i m H, W i m H →
      ((Itt K a).stop i H ∧ Qd H) ∨ ((Itt K a).go i H ∧ ∃ Nx : Hp → Prop, (∀ H', Nx H' → ∃ m', m' < m ∧ W (i + 1) m' H') ∧ ∀ x H', (Itt K a).yld i H x H' → g x (wipe σ vs) H' fun σ2 H2 => wipe σ2 vs = wipe σ vs ∧ tt σ2 H2 fun b H3 =>
        if b = true then tk σ2 H3 fun y H4 => tv σ2 H4 fun z H5 => ∃ (q : Addr) (ks : LKey) (xs : List LEnt), y = .ref q ∧ H5 q = some (.tup (ks.map leafV)) ∧ LDict P w H5 D xs ∧ xs.length < sizeLine ∧ ∀ r, RelV z r → Nx (upd H5 D (LfO P w D (storedH xs ks q r))) else Nx H3) := by
  refine ⟨fun i m H => m = ys.length - i ∧ i ≤ ys.length ∧ Pv i H, ⟨ys.length, by simp, Nat.zero_le _, h0⟩, ?_⟩
  rintro i m H ⟨rfl, hi, p⟩
  have q := hl i H hi p
  by_cases hlt : i < ys.length
  · refine .inr ⟨⟨ys, ys[i], q, by simp [hlt]⟩, Pv (i + 1), fun H' p' => ⟨ys.length - (i + 1), by omega, rfl, hlt, p'⟩, fun x H' y => ?_⟩
    obtain ⟨e, y⟩ := y
    subst e
    exact hs i x _ (y ys q) p
  · have e : i = ys.length := by omega
    subst e
    exact .inl ⟨⟨ys, q, Nat.le_refl _⟩, hd H p⟩
/-- the dict with one more key, or the same keys -/
theorem LDict.stored {P : Program} {w : World} {H : Hp} {d q : Addr} {xs : List LEnt} {ks : LKey} {r : Value} (D : LDict P w H d xs) (hq : H q = some (.tup (ks.map leafV))) (hl : xs.length < sizeLine) (hn : ks ∉ xs.map (·.1)) :
    storedH xs ks q r = xs ++ [(ks, q, r)] ∧ LDict P w (upd H d (LfO P w d (xs ++ [(ks, q, r)]))) d (xs ++ [(ks, q, r)]) := by
  have e : storedH xs ks q r = xs ++ [(ks, q, r)] := by
    unfold storedH
    rw [atKey_mem, if_neg (by simpa using hn)]
  have tn : ∀ b ys, H b = some (.tup ys) → b ≠ d := fun b ys h z => by
    rw [z, D.at_] at h
    cases h
  refine ⟨e, upd_same, fun x hx => ?_, D.sys, by rw [List.length_append]; show _ + 1 ≤ _; omega⟩
  rcases List.mem_append.mp hx with hx | hx
  · rw [upd_ne (tn _ _ (D.keys x hx))]
    exact D.keys x hx
  · rw [List.mem_singleton.mp hx, upd_ne (tn _ _ hq)]
    exact hq
/-- a key that is there already -/
theorem LDict.again {P : Program} {w : World} {H : Hp} {d q : Addr} {xs : List LEnt} {ks : LKey} {r : Value} (D : LDict P w H d xs) (hm : ks ∈ xs.map (·.1)) :
    (storedH xs ks q r).map (·.1) = xs.map (·.1) ∧ LDict P w (upd H d (LfO P w d (storedH xs ks q r))) d (storedH xs ks q r) := by
  obtain ⟨pr, hp⟩ := Option.isSome_iff_exists.mp (show (atKey xs ks).isSome = true by rw [atKey_mem]; exact decide_eq_true hm)
  have e : storedH xs ks q r = xs.map (putAt ks r) := storedH_old hp q r
  have p1 : ∀ x : LEnt, (putAt ks r x).1 = x.1 ∧ (putAt ks r x).2.1 = x.2.1 := fun x => by
    unfold putAt
    split <;> exact ⟨rfl, rfl⟩
  have tn : ∀ b ys, H b = some (.tup ys) → b ≠ d := fun b ys h z => by
    rw [z, D.at_] at h
    cases h
  have ek : (storedH xs ks q r).map (·.1) = xs.map (·.1) := by
    rw [e, List.map_map]
    exact List.map_congr_left fun x _ => (p1 x).1
  refine ⟨ek, upd_same, fun x hx => ?_, D.sys, by rw [e, List.length_map]; exact D.le⟩
  rw [e] at hx
  obtain ⟨y, hy, rfl⟩ := List.mem_map.mp hx
  rw [(p1 y).1, (p1 y).2, upd_ne (tn _ _ (D.keys y hy))]
  exact D.keys y hy
end
end LfX
end
section
set_option Elab.async false
set_option maxRecDepth 100000
set_option linter.all false
/-! sorting by a key that the program's own code gives: the list's own part, told by what stays -/
namespace LfX
open PySem PySem.W PySem.Calls PySem.Spec PyProof.Rows
/-- all but two objects stay -/
def But2 (x y : Addr) (h h' : Heap) : Prop := ∀ b, b ≠ x → b ≠ y → h'.get? b = h.get? b
section
variable {prog : Program} {w : World} {A : Around} {E : Value → Shared → Prop} {s : Shared} {a kS : Addr} {b : Bool} {vs ks out : List Value} {e e1 : Nat} {P : PySem.Fin → Shared → Prop}
theorem sg_tail {st : SortSt} (nk : s.heap.get? kS = some (seqObj "list" ks.toArray e)) (na : s.heap.get? a = some (seqObj "list" #[] e1)) (hka : kS ≠ a) (hsz : ks.length ≤ sizeLine) (hz : out.length ≤ sizeLine) (hfl : failedOf st = none)
    (ho : (if b = true then ((arrOf st).map (·.2)).reverse else (arrOf st).map (·.2)) = out.toArray) (h : P (.done (.ret .none)) { s with heap := (s.heap.update kS (Obj.mapSeq fun _ => (#[] : Array Value))).update a (Obj.mapSeq fun _ => out.toArray) }) :
    wpAny (model prog w) A (ksk_tail a b e1 (.ref kS) st) P E s := by
  have x1 := Heap.SameBut.update s.heap kS (Obj.mapSeq fun _ => (#[] : Array Value))
  have na1 : (s.heap.update kS (Obj.mapSeq fun _ => (#[] : Array Value))).get? a = some (seqObj "list" #[] e1) := (x1.2 a hka.symm).trans na
  have hz2 : out.toArray.size ≤ sizeLine + 1 := by rw [List.size_toArray]; exact Nat.le_succ_of_le hz
  unfold ksk_tail
  try dsimp only
  rw [ho]
  refine wpAny_bind (listUpdate_at nk rfl ?_ (by rw [List.size_toArray]; exact hsz) (Nat.zero_le _))
  refine wpAny_bind (wpAny_letGo ?_)
  refine wpAny_bind (seqEpoch_at na1 rfl ?_)
  refine wpAny_bind (listUpdate_at na1 rfl ?_ (Nat.zero_le _) hz2)
  rw [hfl]
  simp only [bne_self_eq_false, Bool.false_eq_true, if_false]
  exact wpAny_pure h
theorem sg_end {κ : PyProof.Rows.KeyKind} (nk : s.heap.get? kS = some (seqObj "list" ks.toArray e)) (na : s.heap.get? a = some (seqObj "list" #[] e1)) (hka : kS ≠ a) (S : SortsAt prog w A s κ ks) (hsz : ks.length = vs.length) (hZ : vs.length ≤ sizeLine)
    (h : ∀ tk, P (.done (.ret .none)) { s with heap := (s.heap.update kS (Obj.mapSeq fun _ => (#[] : Array Value))).update a (Obj.mapSeq fun _ => (sortVals κ b ks vs).toArray), toks := tk }) :
    wpAny (model prog w) A (ksk_end a b vs.toArray e1 (.ref kS) ks.toArray) P E s := by
  obtain ⟨kd, g1, g2⟩ := S.kind
  generalize hz0 : (if b = true then (ks.toArray.zip vs.toArray).reverse else ks.toArray.zip vs.toArray) = ps
  have hK : PyProof.Rows.KeysOf κ (ks.toArray.zip vs.toArray) := keysOf_zip (keys := ks.toArray) fun v hv => S.keys v (by simpa using hv)
  have hol : (sortVals κ b ks vs).length = vs.length := sortVals_length b hsz
  have hp0 : ps.Perm (ks.toArray.zip vs.toArray) := by
    rw [← hz0]
    cases b with
    | false => exact Array.Perm.refl _
    | true => exact Array.perm_iff_toList_perm.mpr (by rw [if_pos rfl, Array.toList_reverse]; exact List.reverse_perm _)
  have hps : ps.size = vs.length := by rw [hp0.size_eq, Array.size_zip, List.size_toArray, List.size_toArray, hsz, Nat.min_self]
  have fin : ∀ st' : SortSt, (arrOf st').Perm ps → SortedToK κ (arrOf st') ps.size → Stable κ (arrOf st') ps → (if b = true then ((arrOf st').map (·.2)).reverse else (arrOf st').map (·.2)) = (sortVals κ b ks vs).toArray := by
    intro st' hp hs ht
    rw [← hz0] at hp hs ht
    have := congrArg List.toArray (sort_out (rev := b) (keys := ks.toArray) (items := vs.toArray) (xs := arrOf st') (κ := κ) hK hp hs ht)
    simpa using this
  have rul : ∀ t : Sem PySem.Fin, wpAny (model prog w) A t P E s → wpAny (model prog w) A (if b = true then (do let _ ← rule "list.sort.reverse"; t) else t) P E s := by
    intro t ht
    split
    · exact wpAny_bind (wpAny_rule ht)
    · exact ht
  unfold ksk_end
  try dsimp only
  refine rul _ ?_
  rw [hz0]
  by_cases h2 : vs.toArray.size < 2
  · rw [if_pos h2, if_pos h2]
    refine wpAny_bind (wpAny_pure ?_)
    rw [StateT.run_pure]
    refine wpAny_bind (wpAny_pure ?_)
    try dsimp only
    refine sg_tail (out := sortVals κ b ks vs) (st := SortSt.mk' general' ps #[] 7 none) nk na hka (by rw [hsz]; exact hZ) (by rw [hol]; exact hZ) rfl (fin _ (Array.Perm.refl _) ?_ (Stable.refl _)) (h s.toks)
    intro i j hij hj
    rw [hps] at hj
    rw [List.size_toArray] at h2
    obtain rfl : i = j := by omega
    exact KeyOrd.kle_refl _
  · rw [if_neg h2, if_neg h2]
    rw [List.size_toArray] at h2
    refine wpAny_bind (g2 (by omega) _ ?_)
    refine wpAny_bind (wpAny_mono (H.wpS_sortRunsSt (κ := κ) (kd := kd) (a₀ := ps) (st := SortSt.mk' kd ps #[] 7 none)
      (Q := fun _ st' => failedOf st' = none ∧ (if b = true then ((arrOf st').map (·.2)).reverse else (arrOf st').map (·.2)) = (sortVals κ b ks vs).toArray)
      g1 (hK.perm hp0) ⟨Array.Perm.refl _, rfl, rfl⟩ rfl (Stable.refl _) (by rw [hps]; omega) fun st' a1 a2 a3 a4 => ⟨a2, fin st' a1 a3 a4⟩) ?_ fun _ _ e => e)
    rintro ⟨⟨⟩, st'⟩ s' ⟨rfl, hf, ho⟩
    try dsimp only at ho ⊢
    exact sg_tail nk na hka (by rw [hsz]; exact hZ) (by rw [hol]; exact hZ) hf ho (h _)
theorem sg_rest {f : Value} (J : List Value → Shared → Prop) (hZ : vs.length ≤ sizeLine) (hJ : ∀ ks s, J ks s → (∃ e, s.heap.get? kS = some (seqObj "list" ks.toArray e)))
    (turn : ∀ (ks : List Value) (v : Value) (s : Shared), vs[ks.length]? = some v → J ks s → wpAny (model prog w) A (call f [v]) (fun kv s' => (∃ e, s'.heap.get? kS = some (seqObj "list" ks.toArray e)) ∧ ∀ h' c, Heap.SameBut kS s'.heap h' → h'.get? kS = some (seqObj "list" (ks ++ [kv]).toArray c) → J (ks ++ [kv]) { s' with heap := h' }) (fun _ _ => False) s)
    (fin : ∀ ks s, ks.length = vs.length → J ks s → wpAny (model prog w) A (ksk_end a b vs.toArray e1 (.ref kS) ks.toArray) P E s) (h0 : J [] s) : wpAny (model prog w) A (ksk_rest a f b vs.toArray e1 (.ref kS)) P E s := by
  unfold ksk_rest
  refine wpAny_bind (wpAny_rule ?_)
  first
    | rw [List.forIn_toArray]
    | (rw [← Array.forIn_toList]; simp only [List.toList_toArray])
    | rw [← Array.forIn_toList]
  refine wpAny_bind (ksk_fold (fun i s' => ∃ ks, ks.length = i ∧ J ks s') vs 0 s ⟨[], rfl, h0⟩ ?step ?done)
  case step =>
    rintro j x s' hx ⟨ks, hl, hj⟩
    rw [Nat.zero_add] at hl ⊢
    subst hl
    have hjl : ks.length < vs.length := (List.getElem?_eq_some_iff.mp hx).1
    refine wpAny_bind (wpAny_attempt (wpAny_mono (turn ks x s' hx hj) (fun v s'' he => ?_) fun _ _ hF => hF.elim))
    obtain ⟨⟨e, nk⟩, nx⟩ := he
    try dsimp only
    refine wpAny_bind (listUpdate_at nk rfl ?_ (by rw [List.size_toArray]; omega) (by rw [Array.size_push, List.size_toArray]; omega))
    have ep : (ks.toArray.push v) = (ks ++ [v]).toArray := by simp
    obtain ⟨c2, hc2⟩ : ∃ c2, (s''.heap.update kS (Obj.mapSeq (·.push v))).get? kS = some (seqObj "list" (ks.toArray.push v) c2) := ⟨_, get?_update_seq nk (·.push v)⟩
    rw [ep] at hc2
    exact wpAny_pure ⟨rfl, ks ++ [v], by rw [List.length_append]; rfl, nx _ c2 (Heap.SameBut.update _ _ _) hc2⟩
  case done =>
    rintro s' ⟨ks, hl, hj⟩
    rw [Nat.zero_add] at hl
    obtain ⟨e, nk⟩ := hJ ks s' hj
    try dsimp only
    refine wpAny_bind (listItems_at nk rfl ?_)
    exact fin ks s' hl hj
/-- the whole tree: a list's own sort by f -/
theorem sg_tree {f : Value} {n : Nat} (J : Addr → Nat → List Value → Shared → Prop) (ho : s.heap.get? a = some (seqObj "list" vs.toArray n)) (hZ : vs.length ≤ sizeLine)
    (hJ : ∀ kS e1 ks s, J kS e1 ks s → (∃ e, s.heap.get? kS = some (seqObj "list" ks.toArray e)))
    (start : ∀ e1, (s.heap.update a (Obj.mapSeq fun _ => (#[] : Array Value))).get? a = some (seqObj "list" #[] e1) → J ((s.heap.update a (Obj.mapSeq fun _ => (#[] : Array Value))).push (seqObj "tuple" vs.toArray 0)).objs.size e1 [] { s with heap := ((s.heap.update a (Obj.mapSeq fun _ => (#[] : Array Value))).push (seqObj "tuple" vs.toArray 0)).push (seqObj "list" #[] 0) })
    (turn : ∀ kS e1 (ks : List Value) (v : Value) (s : Shared), vs[ks.length]? = some v → J kS e1 ks s → wpAny (model prog w) A (call f [v]) (fun kv s' => (∃ e, s'.heap.get? kS = some (seqObj "list" ks.toArray e)) ∧ ∀ h' c, Heap.SameBut kS s'.heap h' → h'.get? kS = some (seqObj "list" (ks ++ [kv]).toArray c) → J kS e1 (ks ++ [kv]) { s' with heap := h' }) (fun _ _ => False) s)
    (fin : ∀ kS e1 ks s, ks.length = vs.length → J kS e1 ks s → wpAny (model prog w) A (ksk_end a b vs.toArray e1 (.ref kS) ks.toArray) P E s) : wpAny (model prog w) A (ksk_tree a f b) P E s := by
  have ha : a < s.heap.objs.size := Heap.lt_size ho
  have x1 := Heap.SameBut.update s.heap a (Obj.mapSeq fun _ => (#[] : Array Value))
  obtain ⟨e1, ho1⟩ : ∃ e1, (s.heap.update a (Obj.mapSeq fun _ => (#[] : Array Value))).get? a = some (seqObj "list" #[] e1) := ⟨_, get?_update_seq ho fun _ => #[]⟩
  have hkS : ((s.heap.update a (Obj.mapSeq fun _ => (#[] : Array Value))).push (seqObj "tuple" vs.toArray 0)).objs.size = s.heap.objs.size + 1 := by rw [size_push', Heap.size_update]
  unfold ksk_tree
  refine wpAny_bind (listItems_at ho rfl ?_)
  refine wpAny_bind (listUpdate_at ho rfl ?_ (by rw [List.size_toArray]; exact hZ) (Nat.zero_le _))
  refine wpAny_bind (seqEpoch_at ho1 rfl ?_)
  refine wpAny_bind (wpAny_newTuple ?_ (by show vs.length ≤ _; exact hZ))
  refine wpAny_bind (wpAny_newList ?_ (Nat.zero_le _))
  refine wpAny_holding ?_
  exact sg_rest (J _ e1) hZ (hJ _ e1) (turn _ e1) (fin _ e1) (start e1 ho1)
end
end LfX
end
section
set_option Elab.async false
set_option maxRecDepth 100000
set_option linter.all false
/-! sorted(xs, key=f), f a def of the program -/
namespace LfX
open PySem PySem.W PySem.Calls PySem.Spec PyProof.Rows L2
theorem each_of {α β : Type} {R : α → β → Prop} : ∀ {as : List α} {bs : List β}, as.length = bs.length → (∀ (j : Nat) (a : α) (b : β), as[j]? = some a → bs[j]? = some b → R a b) → EachIs R as bs
  | [], [], _, _ => .nil
  | [], _ :: _, h, _ => by simp at h
  | _ :: _, [], h, _ => by simp at h
  | a :: as, b :: bs, h, k => .cons (k 0 a b rfl rfl) (each_of (by simpa using h) fun j x y h1 h2 => k (j + 1) x y (by simpa using h1) (by simpa using h2))
theorem each_vals {out : List Value} {bs : List (V × PyData)} (h : EachIs (fun u p => RelV p.1 u) out bs) : Vals (bs.map (·.1)) out := by
  induction h with
  | nil => exact .nil
  | cons h1 _ ih => exact .cons h1 ih
theorem refs_vals : ∀ {qs : List Addr} {us : List Value}, Vals (qs.map V.ref) us → us = qs.map Value.ref
  | [], _, r => by rw [List.map_nil] at r; cases r; rfl
  | q :: qs, _, r => by
    rw [List.map_cons] at r
    cases r with
    | cons h t =>
      rw [refs_vals t, List.map_cons]
      congr 1
theorem vals_get : ∀ {vs : List V} {us : List Value} {j : Nat} {v : V} {u : Value}, Vals vs us → vs[j]? = some v → us[j]? = some u → RelV v u
  | _, _, _, _, _, .nil, h, _ => by simp at h
  | _, _, 0, _, _, .cons r _, h1, h2 => by cases h1; cases h2; exact r
  | _, _, j + 1, _, _, .cons _ t, h1, h2 => vals_get (j := j) t (by simpa using h1) (by simpa using h2)
theorem vals_refs : ∀ qs : List Addr, Vals (qs.map V.ref) (qs.map Value.ref)
  | [] => .nil
  | q :: qs => .cons rfl (vals_refs qs)
def TupS (H H' : Hp) : Prop := ∀ b xs, H b = some (.tup xs) → H' b = some (.tup xs)
def AllS (H H' : Hp) : Prop := ∀ b o, H b = some o → H' b = some o
/-- the keys' order, and what the sorted list is -/
def sortedBy (vs : List V) (kz : List PyData) : List V := ((vs.zip kz).mergeSort (dataLe false (·.2))).map (·.1)
def rSortedF (K : PySem.W.Frag) (f : Addr) (sp : Sp) : List V → List V → Hp → VK → Prop := fun xs zs H Q => ∃ (l : Addr) (vs : List V) (kz : List PyData), xs = [.ref l] ∧ zs = [.ref f] ∧ SqL K H l vs ∧ kz.length = vs.length ∧ AllAlike kz ∧ Sortable kz ∧ (∀ d ∈ kz, d.depth ≤ 8) ∧
  (∀ (i : Nat) (v : V) (d : PyData), vs[i]? = some v → kz[i]? = some d → ∀ H', AllS H H' → sp [v] H' (fun kv H'' => AllS H' H'' ∧ (∃ q, kv = .ref q) ∧ ∀ H2, TupS H'' H2 → Dp K H2 kv d) (fun _ _ _ => False)) ∧
  ∀ p H', AllS H H' → H p = none → H' p = some (.lst (sortedBy vs kz)) → Q (.ref p) H'
section
variable {X : Cx} {k : Nat} {f : Addr} {fd : FuncData} {ps : List Str} {sp : Sp}
theorem cr_sortedF (F : FnOk X.prog X.w X.K X.mg X.base CX0 k f fd ps sp) (hr : Room (k + 2) X.A) (hb : Binds X.K fd ps []) : CallRK X (.builtin "sorted") [Str.ofString "key"] (rSortedF X.K f sp) := by
  intro pins s σ H xs zs us ws Q I r rz h
  obtain ⟨l, vs, kz, rfl, rfl, hs, hlen, hal, hsk, hdp, hsp, hQ⟩ := h
  obtain rfl := Vals.ref1 r
  obtain ⟨w1, rfl, e1⟩ := vals1 rz
  obtain rfl : w1 = Value.ref f := e1
  obtain ⟨its, rv, hl, hz⟩ := I.list hs
  have il : its.length = vs.length := rv.length.symm
  refine sorted_of_sort hl.isList (by omega) (PyProof.Rows.ksk_s1 _ _) (fun _ => PyProof.Rows.ksk_l1 _ _) fun E' => ?_
  show wpAny _ _ (Builtin.«list.sort» ⟨[.ref (s.heap.objs.size + 1)], [(Str.ofString "key", .ref f)]⟩) _ _ _
  rw [ksk_t1]
  obtain ⟨a, ea⟩ : ∃ a, a = s.heap.objs.size + 1 := ⟨_, rfl⟩
  rw [← ea]
  have hoa : (copyHeap s.heap its).get? a = some (seqObj "list" its.toArray 0) := by rw [ea]; exact copyHeap_at _ _
  have Ha : H a = none := I.hok.fresh (by rw [ea]; exact Nat.le_succ _)
  have I1 : Inv X pins σ (upd H a (.lst vs)) { s with heap := copyHeap s.heap its } := I.laid (t' := s.toks) (fun b o e => copyHeap_old e) (by rw [ea]; exact Nat.le_succ _) ⟨by omega, its, 0, rv, hoa⟩
  have hnf := I1.nofrz upd_same True.intro
  have hr2 : Room k X.A.in1.in1 := (hr.in1).in1
  have hkz : kz.length = its.length := by omega
  have x1 := Heap.SameBut.update (copyHeap s.heap its) a (Obj.mapSeq fun _ => (#[] : Array Value))
  let J : Addr → Nat → List Value → Shared → Prop := fun kS e1 ks s' => ∃ (Hi : Hp) (qs : List Addr), Inv X pins σ Hi s' ∧ AllS H Hi ∧ Hi a = some (.frz (seqObj "list" #[] e1) (.lst [])) ∧ Hi kS = some (.lst (qs.map V.ref)) ∧ ks = qs.map Value.ref ∧ a ≠ kS ∧ H kS = none ∧
    ∀ (j : Nat) (q : Addr) (d : PyData), qs[j]? = some q → kz[j]? = some d → ∀ H2, TupS Hi H2 → Dp X.K H2 (.ref q) d
  have kSat : ∀ {kS : Addr} {qs : List Addr} {Hi : Hp} {s' : Shared}, Inv X pins σ Hi s' → Hi kS = some (.lst (qs.map V.ref)) → ∃ e, s'.heap.get? kS = some (seqObj "list" (qs.map Value.ref).toArray e) := fun {kS qs Hi s'} Ii hk => by
    obtain ⟨_, us, n, r, g⟩ := (show ObjOk X.prog X.w Hi s'.heap kS (.lst (qs.map V.ref)) from Ii.hok _ _ hk)
    rw [refs_vals r] at g
    exact ⟨n, g⟩
  refine sg_tree (b := false) J hoa (by omega) (fun kS e1 ks s' hj => ?hJ) (fun e1 ho1 => ?start) (fun kS e1 ks v s' hv hj => ?turn) (fun kS e1 ks s' hl2 hj => ?fin)
  case hJ =>
    obtain ⟨Hi, qs, Ii, _, _, hk, rfl, _⟩ := hj
    exact kSat Ii hk
  case start =>
    have I2 : Inv X pins σ (upd (upd H a (.lst vs)) a (.lst [])) { s with heap := (copyHeap s.heap its).update a (Obj.mapSeq fun _ => (#[] : Array Value)) } := I1.write (t' := s.toks) (by rw [upd_same]; exact True.intro) (.inl rfl) (fun c u hc e => (x1.2 c hc).trans e) ⟨_, ho1⟩ ⟨Nat.zero_le _, [], e1, .nil, ho1⟩
    rw [upd_upd] at I2
    have I3 := I2.kept (h' := ((copyHeap s.heap its).update a (Obj.mapSeq fun _ => (#[] : Array Value))).push (seqObj "tuple" its.toArray 0)) (t' := s.toks) fun c u e => Heap.get?_push_of_some _ e
    obtain ⟨kS, ek⟩ : ∃ kS, kS = (((copyHeap s.heap its).update a (Obj.mapSeq fun _ => (#[] : Array Value))).push (seqObj "tuple" its.toArray 0)).objs.size := ⟨_, rfl⟩
    have HkS : (upd H a (.lst [])) kS = none := I3.hok.fresh (Nat.le_of_eq ek.symm)
    have I4 := I3.laid (h' := (((copyHeap s.heap its).update a (Obj.mapSeq fun _ => (#[] : Array Value))).push (seqObj "tuple" its.toArray 0)).push (seqObj "list" #[] 0)) (a := kS) (o := .lst []) (t' := s.toks) (fun c u e => Heap.get?_push_of_some _ e) (Nat.le_of_eq ek.symm) ⟨Nat.zero_le _, [], 0, .nil, by rw [ek]; exact Heap.get?_push_size _ rfl⟩
    rw [← ek]
    have nak : a ≠ kS := fun z => by rw [← z, upd_same] at HkS; cases HkS
    have oa : (upd (upd H a (.lst [])) kS (.lst [])) a = some (.lst []) := by rw [upd_ne nak, upd_same]
    obtain ⟨od, I5⟩ := I4.lock oa True.intro
    have god : ((((copyHeap s.heap its).update a (Obj.mapSeq fun _ => (#[] : Array Value))).push (seqObj "tuple" its.toArray 0)).push (seqObj "list" #[] 0)).get? a = some od := (show ObjOk X.prog X.w _ _ a (.frz od (.lst [])) from I5.hok a _ upd_same).1
    have gs := Heap.get?_push_of_some (seqObj "list" #[] 0) (Heap.get?_push_of_some (seqObj "tuple" its.toArray 0) ho1)
    obtain rfl : od = seqObj "list" #[] e1 := Option.some.inj (god.symm.trans gs)
    rw [upd_ne nak.symm] at HkS
    refine ⟨_, [], I5, fun b o e => ?_, upd_same, by rw [upd_ne nak.symm, upd_same]; rfl, rfl, nak, HkS, fun j q d e => by simp at e⟩
    rw [upd_ne (ne_of_none e Ha), upd_ne (ne_of_none e HkS), upd_ne (ne_of_none e Ha)]
    exact e
  case turn =>
    obtain ⟨Hi, qs, Ii, sm, ha, hk, rfl, nak, HkS, hd⟩ := hj
    rw [List.length_map] at hv
    have hlt : qs.length < its.length := (List.getElem?_eq_some_iff.mp hv).1
    have hvv : vs[qs.length]? = some vs[qs.length] := List.getElem?_eq_getElem (by omega)
    have hdd : kz[qs.length]? = some kz[qs.length] := List.getElem?_eq_getElem (by omega)
    have rvv : RelV vs[qs.length] v := vals_get rv hvv hv
    have sp1 := hsp _ _ _ hvv hdd Hi sm
    have l1 : ([v] : List Value).length = ps.length := by have := F.len _ _ _ _ sp1; simpa using this
    have hb1 := hb s' [v] Ii.kIn (by simpa using l1)
    rw [List.append_nil] at hb1
    refine wpAny_call (codeAny_mono (F.run X.A.in1.in1 X.stack s' Hi ⟨[v], []⟩ [v] [vs[qs.length]] _ _ hr2 (Ii.env0.in1).in1 hb1 (.cons rvv .nil) sp1) fun y z hq => ?_)
    cases y with
    | error e => exact hq.elim
    | ok fl =>
      cases fl with
      | next => exact hq.elim
      | brk => exact hq.elim
      | cont => exact hq.elim
      | ret u =>
        obtain ⟨kv, H2, I2, ru, sm2, ⟨q, rfl⟩, dq⟩ := Ii.after hq
        obtain rfl : u = Value.ref q := ru
        have hk2 := sm2 _ _ hk
        refine ⟨kSat I2 hk2, fun h' c sb g => ?_⟩
        have eq1 : qs.map Value.ref ++ [Value.ref q] = (qs ++ [q]).map Value.ref := by rw [List.map_append]; rfl
        rw [eq1] at g ⊢
        have I3 := I2.write (h' := h') (x := kS) (o := .lst ((qs ++ [q]).map V.ref)) (t' := z.toks) (by rw [hk2]; exact True.intro) (.inl rfl) (fun b u hb e => (sb.2 b hb).trans e) ⟨_, g⟩ ⟨by rw [List.length_map, List.length_append]; show _ + 1 ≤ _; omega, (qs ++ [q]).map Value.ref, c, vals_refs _, g⟩
        refine ⟨_, qs ++ [q], I3, fun b o e => ?_, by rw [upd_ne nak]; exact sm2 _ _ ha, upd_same, rfl, nak, HkS, fun j q' d e1 e2 H3 t3 => ?_⟩
        · rw [upd_ne (ne_of_none e HkS)]
          exact sm2 _ _ (sm _ _ e)
        · have tt : TupS H2 H3 := fun b xs e => t3 b xs (by rw [upd_ne (ne_of e hk2 (by intro z; cases z))]; exact e)
          by_cases hj : j < qs.length
          · rw [List.getElem?_append_left hj] at e1
            exact hd j q' d e1 e2 H3 fun b xs e => tt b xs (sm2 _ _ e)
          · rw [List.getElem?_append_right (by omega)] at e1
            have j0 : j - qs.length = 0 := by
              have := (List.getElem?_eq_some_iff.mp e1).1
              rw [List.length_singleton] at this
              omega
            rw [j0] at e1
            obtain rfl : q = q' := Option.some.inj e1
            obtain rfl : j = qs.length := by omega
            rw [hdd] at e2
            cases e2
            exact dq H3 tt
  case fin =>
    obtain ⟨Hi, qs, Ii, sm, ha, hk, rfl, nak, HkS, hd⟩ := hj
    rw [List.length_map] at hl2
    obtain ⟨e, nk⟩ := kSat Ii hk
    have na : s'.heap.get? a = some (seqObj "list" #[] e1) := (show ObjOk X.prog X.w Hi s'.heap a (.frz (seqObj "list" #[] e1) (.lst [])) from Ii.hok _ _ ha).1
    have each : EachIs (fun v d => ∃ as, Reads s'.heap v d as) (qs.map Value.ref) kz := each_of (by rw [List.length_map]; omega) fun j v d h1 h2 => by
      rw [List.getElem?_map] at h1
      cases hq : qs[j]? with
      | none => rw [hq] at h1; cases h1
      | some q =>
        rw [hq] at h1
        cases h1
        exact Dp.reads Ii d (.ref q) (.ref q) (hd j q d hq h2 Hi fun b xs e => e) rfl
    have hun := hr2.un
    refine sg_end (κ := dataKind s'.heap kz) (e := e) nk na nak.symm (SortsAt.data (s := s') each hal hsk fun d hdm => by have := hdp d hdm; omega) (by rw [List.length_map]; omega) (by omega) fun tk => ⟨rfl, ?_⟩
    have KO : KeyedOut false kz its (sortVals (dataKind s'.heap kz) false (qs.map Value.ref) its) := ⟨s'.heap, qs.map Value.ref, hal, rfl, each⟩
    have ezs : (vs.zip kz).map (·.2) = kz := List.map_snd_zip (by omega)
    have KO2 : KeyedOut false ((vs.zip kz).map (·.2)) its (sortVals (dataKind s'.heap kz) false (qs.map Value.ref) its) := by rw [ezs]; exact KO
    have ev := keyedOut_each (R := fun u (p : V × PyData) => RelV p.1 u) (·.2) KO2 (each_of (by rw [List.length_zip]; omega) fun j u p h1 h2 => by
      obtain ⟨g1, g2⟩ := List.getElem?_zip_eq_some.mp h2
      exact vals_get rv g1 h1)
    have vo : Vals (sortedBy vs kz) (sortVals (dataKind s'.heap kz) false (qs.map Value.ref) its) := each_vals ev
    have ol : (sortVals (dataKind s'.heap kz) false (qs.map Value.ref) its).length = its.length := sortVals_length false (by rw [List.length_map]; omega)
    generalize sortVals (dataKind s'.heap kz) false (qs.map Value.ref) its = out at vo ol ⊢
    have J1 := Ii.unlock ha hnf
    have x2 := Heap.SameBut.update s'.heap kS (Obj.mapSeq fun _ => (#[] : Array Value))
    obtain ⟨c2, hc2⟩ : ∃ c2, (s'.heap.update kS (Obj.mapSeq fun _ => (#[] : Array Value))).get? kS = some (seqObj "list" #[] c2) := ⟨_, get?_update_seq nk fun _ => #[]⟩
    have na2 : (s'.heap.update kS (Obj.mapSeq fun _ => (#[] : Array Value))).get? a = some (seqObj "list" #[] e1) := (x2.2 a nak).trans na
    have J2 := J1.write (h' := s'.heap.update kS (Obj.mapSeq fun _ => (#[] : Array Value))) (x := kS) (o := .lst []) (t' := tk) (by rw [upd_ne nak.symm, hk]; exact True.intro) (.inl rfl) (fun b u hb e => (x2.2 b hb).trans e) ⟨_, hc2⟩ ⟨Nat.zero_le _, [], c2, .nil, hc2⟩
    have x3 := Heap.SameBut.update (s'.heap.update kS (Obj.mapSeq fun _ => (#[] : Array Value))) a (Obj.mapSeq fun _ => out.toArray)
    obtain ⟨c3, hc3⟩ : ∃ c3, ((s'.heap.update kS (Obj.mapSeq fun _ => (#[] : Array Value))).update a (Obj.mapSeq fun _ => out.toArray)).get? a = some (seqObj "list" out.toArray c3) := ⟨_, get?_update_seq na2 fun _ => out.toArray⟩
    have J3 := J2.write (h' := (s'.heap.update kS (Obj.mapSeq fun _ => (#[] : Array Value))).update a (Obj.mapSeq fun _ => out.toArray)) (x := a) (o := .lst (sortedBy vs kz)) (t' := tk) (by rw [upd_ne nak, upd_same]; exact True.intro) (.inl rfl) (fun b u hb e => (x3.2 b hb).trans e) ⟨_, hc3⟩ ⟨by have := vo.length; omega, out, c3, vo, hc3⟩
    refine ⟨.ref a, _, J3, rfl, hQ a _ (fun b o e => ?_) Ha upd_same⟩
    rw [upd_ne (ne_of_none e Ha), upd_ne (ne_of_none e HkS), upd_ne (ne_of_none e Ha)]
    exact sm _ _ e
end
end LfX
end
section
set_option Elab.async false
set_option maxRecDepth 100000
set_option linter.all false
/-! acts -/
namespace LfX
open PySem PySem.W PySem.Calls PySem.Spec PyProof.Rows L2
/-- callback, what is handled while it runs, what comes of it -/
structure Act where
  cb : Str
  hd : Option Str
  out : Str
  deriving DecidableEq
def hdL : Option Str → PySem.Leaf
  | none => .none
  | some x => .text x
def actL (a : Act) : LKey := [.text a.cb, hdL a.hd, .text a.out]
def hdV : Option Str → V
  | none => .non
  | some x => .str x
def actVs (a : Act) : List V := [.str a.cb, hdV a.hd, .str a.out]
theorem act_leaves (a : Act) : (actL a).map leafV = actVs a := by
  obtain ⟨cb, hd, out⟩ := a
  cases hd <;> rfl
theorem actL_inj {a b : Act} (h : actL a = actL b) : a = b := by
  obtain ⟨c1, h1, o1⟩ := a
  obtain ⟨c2, h2, o2⟩ := b
  unfold actL at h
  injection h with e1 h
  injection h with e2 h
  injection h with e3 _
  injection e1 with e1
  injection e3 with e3
  dsimp only at e1 e2 e3
  subst e1 e3
  cases h1 <;> cases h2
  · rfl
  · cases e2
  · cases e2
  · injection e2 with e2
    rw [e2]
/-- what an act is sorted by -/
def actKey (a : Act) : PyData := .tuple [.str a.cb, .str (a.hd.getD Str.empty), .bool (!decide (a.out = "returns")), .str a.out]
theorem acts_alike (as : List Act) : AllAlike (as.map actKey) := by
  intro d hd d' hd'
  obtain ⟨a, _, rfl⟩ := List.mem_map.mp hd
  obtain ⟨b, _, rfl⟩ := List.mem_map.mp hd'
  rfl
theorem acts_sortable (as : List Act) : Sortable (as.map actKey) := .inl fun d hd => by
  obtain ⟨a, _, rfl⟩ := List.mem_map.mp hd
  exact ⟨_, _, rfl⟩
theorem acts_depth (as : List Act) : ∀ d ∈ as.map actKey, d.depth ≤ 8 := fun d hd => by
  obtain ⟨a, _, rfl⟩ := List.mem_map.mp hd
  have e : (actKey a).depth = 1 := rfl
  omega
/-- acts stand at some places -/
def ActsAt (H : Hp) (qs : List Addr) (as : List Act) : Prop := qs.length = as.length ∧ ∀ (j : Nat) (q : Addr) (a : Act), qs[j]? = some q → as[j]? = some a → H q = some (.tup (actVs a))
theorem ActsAt.mono {H H' : Hp} {qs : List Addr} {as : List Act} (h : ActsAt H qs as) (k : ∀ b xs, H b = some (.tup xs) → H' b = some (.tup xs)) : ActsAt H' qs as := ⟨h.1, fun j q a h1 h2 => k _ _ (h.2 j q a h1 h2)⟩
/-- acts in their order -/
def sortA (as : List Act) : List Act := as.mergeSort (dataLe false actKey)
theorem sorted_acts {H : Hp} {qs : List Addr} {as : List Act} (h : ActsAt H qs as) : ∃ qs', sortedBy (qs.map V.ref) (as.map actKey) = qs'.map V.ref ∧ ActsAt H qs' (sortA as) := by
  obtain ⟨hl, hq⟩ := h
  have ez : (qs.map V.ref).zip (as.map actKey) = (qs.zip as).map fun p => (V.ref p.1, actKey p.2) := by rw [List.zip_map]; rfl
  have e1 : ((qs.zip as).map fun p => (V.ref p.1, actKey p.2)).mergeSort (dataLe false (·.2)) = ((qs.zip as).mergeSort fun x y => dataLe false actKey x.2 y.2).map fun p => (V.ref p.1, actKey p.2) :=
    (List.map_mergeSort (r := fun x y : Addr × Act => dataLe false actKey x.2 y.2) (s := dataLe false (·.2)) (f := fun p : Addr × Act => (V.ref p.1, actKey p.2)) fun a _ b _ => rfl).symm
  have e2 : ((qs.zip as).mergeSort fun x y => dataLe false actKey x.2 y.2).map (·.2) = sortA as := by
    have := List.map_mergeSort (l := qs.zip as) (r := fun x y : Addr × Act => dataLe false actKey x.2 y.2) (s := dataLe false actKey) (f := fun p : Addr × Act => p.2) fun a _ b _ => rfl
    rw [this, List.map_snd_zip (by omega)]
    rfl
  have mem : ∀ p ∈ (qs.zip as).mergeSort (fun x y => dataLe false actKey x.2 y.2), H p.1 = some (.tup (actVs p.2)) := fun p hp => by
    obtain ⟨j, hj⟩ := List.mem_iff_getElem?.mp ((List.mergeSort_perm _ _).mem_iff.mp hp)
    obtain ⟨g1, g2⟩ := List.getElem?_zip_eq_some.mp hj
    exact hq j p.1 p.2 g1 g2
  generalize (qs.zip as).mergeSort (fun x y => dataLe false actKey x.2 y.2) = L at e1 e2 mem
  refine ⟨L.map (·.1), ?_, ?_, fun j q a h1 h2 => ?_⟩
  · unfold sortedBy
    rw [ez, e1, List.map_map, List.map_map]
    rfl
  · rw [← e2, List.length_map, List.length_map]
  · rw [← e2] at h2
    rw [List.getElem?_map] at h1 h2
    cases hL : L[j]? with
    | none => rw [hL] at h1; cases h1
    | some p =>
      rw [hL] at h1 h2
      cases h1
      cases h2
      exact mem p (List.mem_of_getElem? hL)
end LfX
end
section
set_option Elab.async false
set_option maxRecDepth 100000
set_option linter.all false
/-! the acts' order -/
namespace LfX
open PySem PySem.W PySem.Calls PySem.Spec PyProof.Rows L2
/-- what is handled is no empty text -/
def HdOk (a : Act) : Prop := a.hd ≠ some Str.empty
def toksA (a : Act) : List (Int ⊕ List Nat) := keyToks (actKey a)
theorem toksA_eq (a : Act) : toksA a = [.inl 1, .inr a.cb.cps.toList, .inl 1, .inr (a.hd.getD Str.empty).cps.toList, .inl 1, .inl (if (!decide (a.out = "returns")) = true then 1 else 0), .inl 1, .inr a.out.cps.toList, .inl 0] := rfl
theorem str_cps {x y : Str} (h : x.cps.toList = y.cps.toList) : x = y := by
  have hc : x.cps = y.cps := Array.toList_inj.mp h
  cases x
  cases y
  cases hc
  rfl
theorem toksA_inj {a b : Act} (ha : HdOk a) (hb : HdOk b) (h : toksA a = toksA b) : a = b := by
  rw [toksA_eq, toksA_eq] at h
  simp only [List.cons.injEq, Sum.inr.injEq, Sum.inl.injEq, true_and, and_true] at h
  obtain ⟨h1, h2, _, h4⟩ := h
  have e1 := str_cps h1
  have e2 := str_cps h2
  have e4 := str_cps h4
  obtain ⟨c1, d1, o1⟩ := a
  obtain ⟨c2, d2, o2⟩ := b
  dsimp only at e1 e2 e4
  subst e1 e4
  cases d1 with
  | none =>
    cases d2 with
    | none => rfl
    | some y => exact absurd (congrArg some e2.symm) hb
  | some x =>
    cases d2 with
    | none => exact absurd (congrArg some e2) ha
    | some y =>
      have e2 : x = y := e2
      rw [e2]
def leA (a b : Act) : Prop := dataLe false actKey a b = true
theorem leA_def (a b : Act) : leA a b ↔ lexLt itemOrd (toksA b) (toksA a) = false := by
  show (!lexLt itemOrd (toksA b) (toksA a)) = true ↔ _
  simp
theorem leA_anti {a b : Act} (ha : HdOk a) (hb : HdOk b) (h1 : leA a b) (h2 : leA b a) : a = b := toksA_inj ha hb (lex_total (O := itemOrd) _ _ ((leA_def b a).mp h2) ((leA_def a b).mp h1))
theorem sortA_perm (as : List Act) : (sortA as).Perm as := List.mergeSort_perm _ _
theorem sortA_pw (as : List Act) : (sortA as).Pairwise leA := by
  have T := sortLe_total (listOrd itemOrd) false fun b : Act => keyToks (actKey b)
  exact List.pairwise_mergeSort (fun a b c h1 h2 => T.trans a b c h1 h2) (fun a b => by simpa using T.total a b) as
/-- two ascending rows of the same acts are one -/
theorem ascA_one : ∀ {as bs : List Act}, (∀ a ∈ as, HdOk a) → as.Perm bs → as.Pairwise leA → bs.Pairwise leA → as = bs
  | [], bs, _, p, _, _ => (List.nil_perm.mp p).symm
  | a :: as, [], _, p, _, _ => absurd p.length_eq (by simp)
  | a :: as, b :: bs, ok, p, h1, h2 => by
    obtain ⟨a1, a2⟩ := List.pairwise_cons.mp h1
    obtain ⟨b1, b2⟩ := List.pairwise_cons.mp h2
    have refl : ∀ x, leA x x := fun x => (leA_def x x).mpr (lex_irrefl _)
    have okb : HdOk b := ok b (p.mem_iff.mpr List.mem_cons_self)
    have e : a = b := by
      refine leA_anti (ok a List.mem_cons_self) okb ?_ ?_
      · rcases List.mem_cons.mp (p.mem_iff.mpr (List.mem_cons_self (a := b) (l := bs))) with e | m
        · rw [e]; exact refl a
        · exact a1 b m
      · rcases List.mem_cons.mp (p.mem_iff.mp (List.mem_cons_self (a := a) (l := as))) with e | m
        · rw [e]; exact refl b
        · exact b1 a m
    subst e
    rw [ascA_one (fun x hx => ok x (List.mem_cons_of_mem _ hx)) (List.Perm.cons_inv p) a2 b2]
end LfX
end
section
set_option Elab.async false
set_option maxRecDepth 100000
set_option linter.all false
/-! acts put in their places one by one -/
namespace LfX
open PySem PySem.W PySem.Calls PySem.Spec PyProof.Rows L2
def ltA (a b : Act) : Bool := lexLt itemOrd (toksA a) (toksA b)
theorem leA_lt {a b : Act} : leA a b ↔ ltA b a = false := leA_def a b
theorem leA_trans {a b c : Act} (h1 : leA a b) (h2 : leA b c) : leA a c := (sortLe_total (listOrd itemOrd) false fun b : Act => keyToks (actKey b)).trans a b c h1 h2
theorem ltA_le {a b : Act} (h : ltA a b = true) : leA a b := by
  rw [leA_lt]
  cases q : ltA b a with
  | false => rfl
  | true =>
    have h3 := lex_trans (O := itemOrd) _ _ _ h q
    rw [lex_irrefl] at h3
    cases h3
theorem filt_take (x : Act) : ∀ {L : List Act}, L.Pairwise leA → L.filter (fun y => ltA y x) = L.take (L.filter fun y => ltA y x).length ∧ ∀ y ∈ L.drop (L.filter fun y => ltA y x).length, ltA y x = false
  | [], _ => ⟨rfl, fun y h => by simp at h⟩
  | y :: L, h => by
    obtain ⟨h1, h2⟩ := List.pairwise_cons.mp h
    cases hy : ltA y x with
    | true =>
      obtain ⟨e, k⟩ := filt_take x h2
      rw [show (y :: L).filter (fun z => ltA z x) = y :: L.filter (fun z => ltA z x) from List.filter_cons_of_pos hy, List.length_cons]
      exact ⟨by rw [List.take_succ_cons, ← e], k⟩
    | false =>
      have no : ∀ z ∈ y :: L, ltA z x = false := fun z hz => by
        rcases List.mem_cons.mp hz with rfl | hz
        · exact hy
        · exact leA_lt.mp (leA_trans (leA_lt.mpr hy) (h1 z hz))
      have e : (y :: L).filter (fun z => ltA z x) = [] := List.filter_eq_nil_iff.mpr fun z hz => by rw [no z hz]; exact Bool.false_ne_true
      rw [e]
      exact ⟨rfl, fun z hz => no z hz⟩
/-- put in its place -/
def insA (L : List Act) (x : Act) : List Act := L.take (L.filter fun y => ltA y x).length ++ [x] ++ L.drop (L.filter fun y => ltA y x).length
theorem insA_perm (L : List Act) (x : Act) : (insA L x).Perm (x :: L) := by
  unfold insA
  rw [List.append_assoc]
  show (L.take (L.filter fun y => ltA y x).length ++ x :: L.drop (L.filter fun y => ltA y x).length).Perm (x :: L)
  refine (List.perm_middle (a := x)).trans ?_
  rw [List.take_append_drop]
theorem insA_pw {L : List Act} {x : Act} (h : L.Pairwise leA) : (insA L x).Pairwise leA := by
  obtain ⟨e, k⟩ := filt_take x h
  unfold insA
  generalize hn : (L.filter fun y => ltA y x).length = n at e k
  have hL : (L.take n ++ L.drop n).Pairwise leA := by rw [List.take_append_drop]; exact h
  obtain ⟨p1, p2, p3⟩ := List.pairwise_append.mp hL
  have lt : ∀ y ∈ L.take n, leA y x := fun y hy => by
    rw [← e] at hy
    exact ltA_le (List.mem_filter.mp hy).2
  rw [List.append_assoc]
  refine List.pairwise_append.mpr ⟨p1, List.pairwise_cons.mpr ⟨fun z hz => leA_lt.mpr (k z hz), p2⟩, fun y hy z hz => ?_⟩
  rcases List.mem_cons.mp hz with rfl | hz
  · exact lt y hy
  · exact p3 y hy z hz
/-- the law's sorting -/
def lawSort (as : List Act) : List Act := as.foldl (fun L x => if x ∈ L then L else insA L x) []
theorem lawSort_ok (as : List Act) : ∀ L : List Act, L.Pairwise leA → L.Nodup → (as.foldl (fun L x => if x ∈ L then L else insA L x) L).Pairwise leA ∧ (as.foldl (fun L x => if x ∈ L then L else insA L x) L).Nodup ∧ ∀ y, y ∈ as.foldl (fun L x => if x ∈ L then L else insA L x) L ↔ y ∈ L ∨ y ∈ as := by
  induction as with
  | nil => exact fun L h n => ⟨h, n, fun y => by simp⟩
  | cons x as ih =>
    intro L h n
    rw [List.foldl_cons]
    by_cases hx : x ∈ L
    · rw [if_pos hx]
      obtain ⟨a, b, c⟩ := ih L h n
      refine ⟨a, b, fun y => (c y).trans ⟨fun q => q.imp id (List.mem_cons_of_mem _), fun q => q.elim .inl fun q => (List.mem_cons.mp q).elim (fun e => .inl (e ▸ hx)) .inr⟩⟩
    · rw [if_neg hx]
      have pm := insA_perm L x
      obtain ⟨a, b, c⟩ := ih (insA L x) (insA_pw h) (pm.nodup_iff.mpr (List.nodup_cons.mpr ⟨hx, n⟩))
      refine ⟨a, b, fun y => (c y).trans ?_⟩
      rw [pm.mem_iff, List.mem_cons, List.mem_cons]
      constructor
      · rintro ((e | e) | e)
        · exact .inr (.inl e)
        · exact .inl e
        · exact .inr (.inr e)
      · rintro (e | e | e)
        · exact .inl (.inr e)
        · exact .inl (.inl e)
        · exact .inr e
/-- any list without twins of the same acts, sorted, is what the law gives -/
theorem lawSort_eq {as bs : List Act} (ok : ∀ a ∈ bs, HdOk a) (nd : bs.Nodup) (h : ∀ y, y ∈ bs ↔ y ∈ as) : sortA bs = lawSort as := by
  obtain ⟨a, b, c⟩ := lawSort_ok as [] .nil List.nodup_nil
  have p1 := sortA_perm bs
  refine ascA_one (fun x hx => ok x (p1.mem_iff.mp hx)) ?_ (sortA_pw bs) a
  refine (List.perm_ext_iff_of_nodup (p1.nodup_iff.mpr nd) b).mpr fun y => ?_
  rw [p1.mem_iff, h y]
  exact ((c y).trans (by simp)).symm
/-- what the law compares: places -/
def placeD (a : Act) : PyData := .tuple [.str a.cb, .str (a.hd.getD Str.empty), .str (if a.out = "returns" then Str.empty else a.out)]
theorem place_lt {a b : Act} (ha : a.out ≠ Str.empty) (hb : b.out ≠ Str.empty) : dataLt (placeD a) (placeD b) = ltA a b := by
  have pa : ∀ c : Act, keyToks (placeD c) = [.inl 1, .inr c.cb.cps.toList, .inl 1, .inr (c.hd.getD Str.empty).cps.toList, .inl 1, .inr (if c.out = "returns" then Str.empty else c.out).cps.toList, .inl 0] := fun _ => rfl
  unfold dataLt ltA
  rw [pa, pa, toksA_eq, toksA_eq]
  have nn : ∀ {x : Str}, x ≠ Str.empty → x.cps.toList ≠ [] := fun {x} h e => h (str_cps (e.trans rfl))
  rw [lex_self, lex_self]
  by_cases h1 : (Sum.inr a.cb.cps.toList : Int ⊕ List Nat) = .inr b.cb.cps.toList
  · rw [h1, lex_self, lex_self, lex_self, lex_self]
    by_cases h2 : (Sum.inr (a.hd.getD Str.empty).cps.toList : Int ⊕ List Nat) = .inr (b.hd.getD Str.empty).cps.toList
    · rw [h2, lex_self, lex_self, lex_self, lex_self]
      by_cases oa : a.out = "returns"
      · by_cases ob : b.out = "returns"
        · simp only [oa, ob, if_true, decide_true, Bool.not_true]
          rw [lex_irrefl, lex_irrefl]
        · simp only [oa, ob, if_true, if_false, decide_true, decide_false, Bool.not_true, Bool.not_false]
          refine (lex_diff (O := itemOrd) (x := .inr Str.empty.cps.toList) (y := .inr b.out.cps.toList) fun e => nn hb (Sum.inr.inj e).symm).trans ?_
          refine Eq.trans ?_ (lex_diff (O := itemOrd) (x := .inl 0) (y := .inl 1) (by simp)).symm
          show strKind.blt [] b.out.cps.toList = decide ((0 : Int) < 1)
          cases hq : b.out.cps.toList with
          | nil => exact absurd hq (nn hb)
          | cons c r => rfl
      · by_cases ob : b.out = "returns"
        · simp only [oa, ob, if_true, if_false, decide_true, decide_false, Bool.not_true, Bool.not_false]
          refine (lex_diff (O := itemOrd) (x := .inr a.out.cps.toList) (y := .inr Str.empty.cps.toList) fun e => nn ha (Sum.inr.inj e)).trans ?_
          refine Eq.trans ?_ (lex_diff (O := itemOrd) (x := .inl 1) (y := .inl 0) (by simp)).symm
          show strKind.blt a.out.cps.toList [] = decide ((1 : Int) < 0)
          cases hq : a.out.cps.toList with
          | nil => exact absurd hq (nn ha)
          | cons c r => rfl
        · simp only [oa, ob, if_false, decide_false, Bool.not_false, if_true]
          rw [lex_self, lex_self]
    · rw [lex_diff (O := itemOrd) h2, lex_diff (O := itemOrd) h2]
  · rw [lex_diff (O := itemOrd) h1, lex_diff (O := itemOrd) h1]
end LfX
end
section
set_option Elab.async false
set_option maxRecDepth 100000
set_option linter.all false
/-! x in a list of data; acts as data -/
namespace LfX
open PySem PySem.W PySem.Calls PySem.Spec PyProof.Rows L2
def rInDt (K : PySem.W.Frag) (neg : Bool) : R2 := fun x y H Q => ∃ (d : PyData) (ds : List PyData), Dp K H x d ∧ Dp K H y (.list ds) ∧ SeqAt.shaped d = true ∧ PyData.canLayAll0 ds = true ∧ Q (.bl (if neg then !(ds.any fun z => PyData.eqv z d) else ds.any fun z => PyData.eqv z d)) H
section
variable {X : Cx}
theorem room_in {A : Around} {xs : List PyData} {d : PyData} (hd : SeqAt.shaped d = true) (hu : A.units + 65 < cLine) : A.units + 1 + min (PyData.depthAll xs) d.depth < cLine := by
  have h1 := SeqAt.depth_of_shaped hd
  have h2 : min (PyData.depthAll xs) d.depth ≤ d.depth := Nat.min_le_right _ _
  omega
theorem op_inDt (hu : X.A.units + 65 < cLine) : OpR X (compareOp .In) (rInDt X.K false) := by
  intro pins s σ H x y v u Q I rx ry h
  obtain ⟨d, ds, hd, he, sd, se, q⟩ := h
  obtain ⟨as, r1⟩ := Dp.reads I d x v hd rx
  obtain ⟨bs, r2⟩ := Dp.reads I (.list ds) y u he ry
  exact SeqAt.in_list_reads r2 r1 se (SeqAt.canLay_of_shaped sd) (room_in sd hu) ⟨.bl _, H, I, rfl, q⟩
theorem op_ninDt (hu : X.A.units + 65 < cLine) : OpR X (compareOp .NotIn) (rInDt X.K true) := by
  intro pins s σ H x y v u Q I rx ry h
  obtain ⟨d, ds, hd, he, sd, se, q⟩ := h
  obtain ⟨as, r1⟩ := Dp.reads I d x v hd rx
  obtain ⟨bs, r2⟩ := Dp.reads I (.list ds) y u he ry
  exact SeqAt.notIn_list_reads r2 r1 se (SeqAt.canLay_of_shaped sd) (room_in sd hu) ⟨.bl _, H, I, rfl, q⟩
end
/-- an act as data -/
def hdD : Option Str → PyData
  | none => .none
  | some x => .str x
def actD (a : Act) : PyData := .tuple [.str a.cb, hdD a.hd, .str a.out]
/-- its texts are no monsters -/
def ActOk (a : Act) : Prop := (actD a).canLay0 = true
theorem ActOk.mk' {cb out : Str} {hd : Option Str} (h1 : PyData.strOk cb = true) (h2 : ∀ x, hd = some x → PyData.strOk x = true) (h3 : PyData.strOk out = true) : ActOk ⟨cb, hd, out⟩ := by
  cases hd with
  | none => simp [ActOk, actD, hdD, PyData.canLay0, PyData.canLayAll0, h1, h3]
  | some x => simp [ActOk, actD, hdD, PyData.canLay0, PyData.canLayAll0, h1, h2 x rfl, h3]
theorem actD_shaped {a : Act} (h : ActOk a) : SeqAt.shaped (actD a) = true := by
  have e : (actD a).depth ≤ 64 := by
    obtain ⟨cb, hd, out⟩ := a
    cases hd
    · show 1 ≤ 64
      omega
    · show 1 ≤ 64
      omega
  show (_ && decide _) = true
  rw [show (actD a).canLay0 = true from h, decide_eq_true e]
  rfl
theorem actsD_lay : ∀ as : List Act, (∀ a ∈ as, ActOk a) → PyData.canLayAll0 (as.map actD) = true
  | [], _ => rfl
  | a :: as, h => by
    show (PyData.canLay0 (actD a) && PyData.canLayAll0 (as.map actD)) = true
    rw [show (actD a).canLay0 = true from h a (List.mem_cons_self ..), actsD_lay as fun b hb => h b (List.mem_cons_of_mem _ hb)]
    rfl
theorem actD_eqv (a b : Act) : PyData.eqv (actD a) (actD b) = decide (a = b) := by
  obtain ⟨c1, h1, o1⟩ := a
  obtain ⟨c2, h2, o2⟩ := b
  have q : ∀ x y : Str, (x == y) = decide (x = y) := fun x y => by
    by_cases h : x = y
    · subst h; simp
    · simp [h]
  cases h1 <;> cases h2 <;> simp [actD, hdD, PyData.eqv, PyData.eqvAll, q]
theorem any_act (a : Act) (as : List Act) : ((as.map actD).any fun z => PyData.eqv z (actD a)) = decide (a ∈ as) := by
  induction as with
  | nil => rfl
  | cons b as ih =>
    rw [List.map_cons, List.any_cons, ih, actD_eqv]
    by_cases h : b = a
    · subst h; simp
    · have h2 : ¬ a = b := fun e => h e.symm
      simp [h, h2]
theorem act_dp {K : PySem.W.Frag} {H : Hp} {q : Addr} {a : Act} (h : H q = some (.tup (actVs a))) : Dp K H (.ref q) (actD a) := by
  refine .tup (.inl (.inl h)) ?_
  obtain ⟨cb, hd, out⟩ := a
  cases hd
  · exact .cons (.str _) (.cons .non (.cons (.str _) .nil))
  · exact .cons (.str _) (.cons (.str _) (.cons (.str _) .nil))
theorem acts_dp {K : PySem.W.Frag} {H : Hp} : ∀ {qs : List Addr} {as : List Act}, ActsAt H qs as → DpAll K H (qs.map V.ref) (as.map actD)
  | [], [], _ => .nil
  | q :: qs, a :: as, h => .cons (act_dp (h.2 0 q a rfl rfl)) (acts_dp ⟨by have := h.1; simpa using this, fun j q a h1 h2 => h.2 (j + 1) q a h1 h2⟩)
  | [], _ :: _, h => by have := h.1; simp at this
  | _ :: _, [], h => by have := h.1; simp at this
/-- a list of acts -/
theorem actsL_dp {K : PySem.W.Frag} {H : Hp} {l : Addr} {qs : List Addr} {as : List Act} (hl : SqL K H l (qs.map V.ref)) (h : ActsAt H qs as) : Dp K H (.ref l) (.list (as.map actD)) := .lst hl (acts_dp h)
/-- is an act among acts -/
theorem rInDt_act {K : PySem.W.Frag} {H : Hp} {neg : Bool} {q l : Addr} {a : Act} {qs : List Addr} {as : List Act} {Q : V → Hp → Prop} (ok : ActOk a) (oks : ∀ b ∈ as, ActOk b) (hq : H q = some (.tup (actVs a))) (hl : SqL K H l (qs.map V.ref)) (h : ActsAt H qs as) (k : Q (.bl (if neg then !decide (a ∈ as) else decide (a ∈ as))) H) : rInDt K neg (.ref q) (.ref l) H Q :=
  ⟨actD a, as.map actD, act_dp hq, actsL_dp hl h, actD_shaped ok, actsD_lay as oks, by rw [any_act]; exact k⟩
end LfX
end
section
set_option Elab.async false
set_option maxRecDepth 100000
set_option linter.all false
/-! x < y of alike data; the places of acts -/
namespace LfX
open PySem PySem.W PySem.Calls PySem.Spec PyProof.Rows L2
def rLtDt (K : PySem.W.Frag) : R2 := fun x y H Q => ∃ d e : PyData, Dp K H x d ∧ Dp K H y e ∧ alike d e = true ∧ d ≠ .none ∧ d.depth ≤ 64 ∧ Q (.bl (dataLt d e)) H
theorem op_ltDt {X : Cx} (hu : X.A.units + 65 < cLine) : OpR X (compareOp .Lt) (rLtDt X.K) := by
  intro pins s σ H x y v u Q I rx ry h
  obtain ⟨d, e, hd, he, al, nn, dp, q⟩ := h
  obtain ⟨as, r1⟩ := Dp.reads I d x v hd rx
  obtain ⟨bs, r2⟩ := Dp.reads I e y u he ry
  refine rcLt_alike d e X.A s v u as bs r1 r2 al nn ?_ _ _ _ _ ⟨.bl _, H, I, rfl, q⟩
  have h2 : min d.depth e.depth ≤ d.depth := Nat.min_le_left _ _
  omega
/-- a place stands at q -/
def plVs (a : Act) : List V := [.str a.cb, .str (a.hd.getD Str.empty), .str (if a.out = "returns" then Str.empty else a.out)]
theorem place_dp {K : PySem.W.Frag} {H : Hp} {q : Addr} {a : Act} (h : H q = some (.tup (plVs a))) : Dp K H (.ref q) (placeD a) :=
  .tup (.inl (.inl h)) (.cons (.str _) (.cons (.str _) (.cons (.str _) .nil)))
theorem place_alike (a b : Act) : alike (placeD a) (placeD b) = true := rfl
theorem place_depth (a : Act) : (placeD a).depth ≤ 64 := by
  have e : (placeD a).depth = 1 := rfl
  omega
/-- which of two acts comes first, by their places -/
theorem rLtDt_place {K : PySem.W.Frag} {H : Hp} {q p : Addr} {a b : Act} {Q : V → Hp → Prop} (ha : a.out ≠ Str.empty) (hb : b.out ≠ Str.empty) (hq : H q = some (.tup (plVs a))) (hp : H p = some (.tup (plVs b))) (k : Q (.bl (ltA a b)) H) : rLtDt K (.ref q) (.ref p) H Q :=
  ⟨placeD a, placeD b, place_dp hq, place_dp hp, place_alike a b, fun e => PyData.noConfusion e, place_depth a, by rw [place_lt ha hb]; exact k⟩
end LfX
end
section
set_option Elab.async false
set_option maxRecDepth 100000
set_option linter.all false
/-! binary operators of own classes, both sides of one class; `not in` of an own class -/
namespace K2
open PySem L2 PySem.Spec PyProof.Rows
variable {X : Cx} {CX : CXT} {k : Nat} {f C : Addr} {fd : FuncData} {ps : List Str} {sp : Sp} {E : XK}
/-- a | b, a & b, a - b, a ^ b: both of the class C, whose method gives an object -/
theorem op_binO (op : Operator) (F : FnOk X.prog X.w X.K X.mg X.base CX k f fd ps sp) (hb : Binds X.K fd ps []) (hx : Passes CX X E) (hr : Room k X.A) (hc : PySem.W.selfFirst X.K C = true) (hs : PySem.W.findIn X.K (.ref C) (PySem.dunder op.info.2) = some (some (.ref f))) (hf : PySem.W.isFn X.K (.ref f) = true) :
    OpR X (binaryOp op) (fun x y H Q => ∃ a b dx fs dy gs, x = .ref a ∧ y = .ref b ∧ H a = some (.ins C dx fs) ∧ H b = some (.ins C dy gs) ∧ sp [.ref a, .ref b] H (fun v H' => ∃ c, v = .ref c ∧ Q (.ref c) H') E) := by
  intro pins s σ H x y v u Q I rx ry h
  obtain ⟨a, b, dx, fs, dy, gs, rfl, rfl, ha, hb2, hsp⟩ := h
  cases rx
  cases ry
  obtain ⟨mA, J, _⟩ := ins_get I.hok ha
  obtain ⟨od, J, _⟩ := J.look
  obtain ⟨mB, J2, _⟩ := ins_get I.hok hb2
  obtain ⟨od2, J2, _⟩ := J2.look
  obtain ⟨m, hF⟩ := I.fr
  refine PySem.W.binop_K hF I.ok.mod.kin J J2.type hc hs hf (wpAny_mono (run_at (vs := [.ref a, .ref b]) F hb hx ⟨hr, rfl⟩ I (.cons rfl (.cons rfl .nil)) hsp) (fun r s' q => ?_) fun _ _ x => x)
  obtain ⟨z, H', I', rz, c, rfl, q⟩ := q
  cases rz
  exact ⟨.ref c, H', I', rfl, q⟩
/-- x not in o -/
theorem op_ninO (F : FnOk X.prog X.w X.K X.mg X.base CX k f fd ps sp) (hb : Binds X.K fd ps []) (hx : Passes CX X E) (hr : Room k X.A) (hs : PySem.W.findIn X.K (.ref C) "__contains__" = some (some (.ref f))) (hf : PySem.W.isFn X.K (.ref f) = true) :
    OpR X (compareOp .NotIn) (fun x y H Q => ∃ a dx fs, y = .ref a ∧ H a = some (.ins C dx fs) ∧ sp [.ref a, x] H (fun v H' => ∃ b, v = .bl b ∧ Q (.bl (!b)) H') E) := by
  intro pins s σ H x y v u Q I rx ry h
  obtain ⟨a, dx, fs, rfl, ha, hsp⟩ := h
  cases ry
  obtain ⟨mA, J, _⟩ := ins_get I.hok ha
  obtain ⟨od, J, _⟩ := J.look
  obtain ⟨m, hF⟩ := I.fr
  refine PySem.W.notIn_K hF I.ok.mod.kin J hs hf (wpAny_mono (run_at (vs := [.ref a, x]) F hb hx ⟨hr, rfl⟩ I (.cons rfl (.cons rx .nil)) hsp) (fun r s' q => ?_) fun _ _ x => x)
  obtain ⟨z, H', I', rz, b, rfl, q⟩ := q
  cases rz
  exact wpAny_truthy_bool ⟨.bl (!b), H', I', rfl, q⟩
end K2
end
section
set_option Elab.async false
set_option maxRecDepth 100000
set_option linter.all false
/-! the key of an act, as the program tells it -/
namespace K2
open PySem L2 LfX
abbrev sAO : Stmt := top 13
abbrev nAO : List Str := ["act", "callback", "handled", "outcome"]
/-- an act's key, new -/
def keyVs (a : LfX.Act) : List V := [.str a.cb, .str (a.hd.getD Str.empty), .bl (!decide (a.out = "returns")), .str a.out]
/-- a name for what is handled is not empty, and no monster -/
def HdW (a : LfX.Act) : Prop := ∀ x, a.hd = some x → 0 < x.length ∧ x.length ≤ sizeLine
def spAO : Sp := fun vs H Q _ => ∃ (q : Addr) (a : LfX.Act), vs = [.ref q] ∧ H q = some (.tup (actVs a)) ∧ HdW a ∧ ∀ r, H r = none → Q (.ref r) (upd H r (.tup (keyVs a)))
section
variable {P : Program} {w : World} {K : PySem.W.Frag} {mg : Str → Option Value} {base : Heap}
theorem scAO : FnScope nAO ["act"] (defScope sAO) := ⟨rfl, rfl, rfl, by decide +kernel, rfl, by decide +kernel, by decide +kernel⟩
theorem ok_ao {f : Addr} {fd : FuncData} (F : Fun K "act_order" "act_order" sAO f fd) : FnOk P w K mg base CX0 1 f fd ["act"] spAO := by
  refine F.ok scAO (fun vs H Q E h => ?_) (fun cdv A outer s H vs Q E hr h => ?_)
  · obtain ⟨q, a, rfl, _⟩ := h
    rfl
  · obtain ⟨q, a, rfl, hq, hw, k⟩ := h
    refine ⟨_, (pss_cons (ps_asg (pv 0) (pg_tup rfl (pgs_cons (pg_name (i := 1) scAO.nd rfl (Or.inl rfl)) (pgs_cons (pg_name (i := 2) scAO.nd rfl (Or.inl rfl)) (pgs_cons (pg_name (i := 3) scAO.nd rfl (Or.inl rfl)) pgs_nil)))))
      (pss_one (ps_ret (pe_tup (pa_cons (pv 1) (pa_cons (pe_orT (pv 2) (pe_one pe_str)) (pa_cons (pe_cmpR op_ne (pv 3) pe_str (nomark _)) (pa_cons (pv 3) pa_nil)))))))), ?_⟩
    refine ⟨_, rfl, q, actVs a, rfl, SqT.of hq, rfl, ?_⟩
    refine ⟨_, _, rfl, ⟨_, _, rfl, ⟨_, _, rfl, ?_⟩⟩⟩
    obtain ⟨cb, hd, out⟩ := a
    have fin : ∀ r, H r = none → Q (.ref r) (upd H r (.tup [.str cb, .str (hd.getD Str.empty), .bl (!decide (out = "returns")), .str out])) := k
    have e1 : (!decide (V.str out = V.str "returns")) = (!decide (out = "returns")) := by simp
    cases hd with
    | none =>
      refine ⟨rfl, _, rfl, _, rfl, false, rfl, iteF ?_⟩
      refine ⟨_, rfl, rfl, _, rfl, (by show 4 ≤ sizeLine; decide), fun r hr0 => ?_⟩
      show Q (.ref r) (upd H r (.tup [.str cb, .str (Str.ofString ""), .bl (!decide (V.str out = V.str "returns")), .str out]))
      rw [e1, show Str.ofString "" = Str.empty from rfl]
      exact fin r hr0
    | some x =>
      obtain ⟨x0, x1⟩ := hw x rfl
      have ne : ((x.length : Int) != 0) = true := by
        rw [bne_iff_ne]
        omega
      refine ⟨rfl, _, rfl, _, rfl, true, ⟨x1, ne.symm⟩, iteT ?_⟩
      refine ⟨_, rfl, rfl, _, rfl, (by show 4 ≤ sizeLine; decide), fun r hr0 => ?_⟩
      show Q (.ref r) (upd H r (.tup [.str cb, .str x, .bl (!decide (V.str out = V.str "returns")), .str out]))
      rw [e1]
      exact fin r hr0
end
end K2
end
section
set_option Elab.async false
set_option maxRecDepth 100000
set_option linter.all false
/-! is_act, of a tuple of three that is made as an act is -/
namespace K2
open PySem L2 LfX
abbrev sIA : Stmt := top 12
abbrev nIA : List Str := ["x", "callback", "handled", "outcome"]
def isActB (a : LfX.Act) : Bool := isW a.cb && ((match a.hd with | none => true | some x => isW x) && (isW a.out || decide (a.out = "returns")))
def ActSz (a : LfX.Act) : Prop := a.cb.length ≤ sizeLine ∧ (∀ x, a.hd = some x → x.length ≤ sizeLine) ∧ a.out.length ≤ sizeLine
def spIA : Sp := fun vs H Q _ => ∃ (q : Addr) (a : LfX.Act), vs = [.ref q] ∧ H q = some (.tup (actVs a)) ∧ ActSz a ∧ Q (.bl (isActB a)) H
section
variable {P : Program} {w : World} {K : PySem.W.Frag} {mg : Str → Option Value} {base : Heap}
theorem scIA : FnScope nIA ["x"] (defScope sIA) := ⟨rfl, rfl, rfl, by decide +kernel, rfl, by decide +kernel, by decide +kernel⟩
theorem ok_ia {f fI : Addr} {fd fdI : FuncData} (F : Fun K "is_act" "is_act" sIA f fd) (T : Bi mg) (IW : Df K mg "is_word" sIsW fI fdI ["x"]) (GI : FnOk P w K mg base CX0 1 fI fdI ["x"] (spIsWG K)) : FnOk P w K mg base CX0 2 f fd ["x"] spIA := by
  refine F.ok scIA (fun vs H Q E h => ?_) (fun cdv A outer s H vs Q E hr h => ?_)
  · obtain ⟨q, a, rfl, _⟩ := h
    rfl
  · obtain ⟨q, a, rfl, hq, ⟨z1, z2, z3⟩, k⟩ := h
    have hr1 : Room 1 _ := hr
    refine ⟨_, (pss_cons (ps_if (PW.pt (pw_or (pt_not (pt_val (pe_callB call_isi (by rfl) T.isinstance (by decide +kernel) (pa_cons (pv 0) (pa_cons (pe_bltn (v := .ty "tuple") (by rfl) T.tuple (by decide +kernel) rfl) pa_nil))))) (pw_or1 (pt_cmpR op_ne (pe_callB call_len_seq (by rfl) T.len PySem.boot_len (pa_cons (pv 0) pa_nil)) pe_int (nomark _)))))
      (pss_one (ps_ret pe_bl))
      pss_nil)
      (pss_cons (ps_asg (pv 0) (pg_tup rfl (pgs_cons (pg_name (i := 1) scIA.nd rfl (Or.inl rfl)) (pgs_cons (pg_name (i := 2) scIA.nd rfl (Or.inl rfl)) (pgs_cons (pg_name (i := 3) scIA.nd rfl (Or.inl rfl)) pgs_nil)))))
      (pss_one (ps_ret (pe_and (pe_call GI hr1 (by rfl) IW.m IW.F.kp IW.b .nil pass0 (pa_cons (pv 1) pa_nil)) (pe_and (pe_or (pe_cmpR op_isN (pv 2) pe_non (nomark _)) (pe_one (pe_call GI hr1 (by rfl) IW.m IW.F.kp IW.b .nil pass0 (pa_cons (pv 2) pa_nil)))) (pe_one (pe_or (pe_call GI hr1 (by rfl) IW.m IW.F.kp IW.b .nil pass0 (pa_cons (pv 3) pa_nil)) (pe_one (pe_cmpR op_eq (pv 3) pe_str (nomark _))))))))))), ?_⟩
    refine ⟨_, rfl, _, _, _, _, true, rfl, .ty _, .base (.tup hq), kit_ty (by decide +kernel), _, rfl, iteF ?_⟩
    refine ⟨_, rfl, q, actVs a, rfl, .inr (SqT.of hq), rfl, false, rfl, iteF ?_⟩
    refine ⟨_, rfl, q, actVs a, rfl, SqT.of hq, rfl, ?_⟩
    refine ⟨_, _, rfl, ⟨_, _, rfl, ⟨_, _, rfl, ?_⟩⟩⟩
    obtain ⟨cb, hd, out⟩ := a
    have e1 : decide (V.str out = V.str "returns") = decide (out = "returns") := by simp
    have third : ∀ {c : Bool} {A B : Prop}, (c = true → A) → (c = false → B) → if c = true then A else B := fun {c A B} h1 h2 => by
      cases c with
      | true => exact (if_pos rfl).mpr (h1 rfl)
      | false => exact (if_neg Bool.false_ne_true).mpr (h2 rfl)
    refine ⟨rfl, _, rfl, .str cb, isW cb, rfl, .str _ z1, isW cb, rfl, third (fun hc => ?_) fun hc => ?_⟩
    · cases hd with
      | none =>
        refine ⟨_, rfl, rfl, true, rfl, iteT ⟨true, rfl, iteT ?_⟩⟩
        refine ⟨_, rfl, .str out, isW out, rfl, .str _ z3, isW out, rfl, third (fun ho => ?_) fun ho => ?_⟩
        · have e : isActB ⟨cb, none, out⟩ = true := by simp [isActB, hc, ho]
          rw [e] at k
          exact k
        · refine ⟨_, rfl, rfl, ?_⟩
          have e : isActB ⟨cb, none, out⟩ = decide (out = "returns") := by simp [isActB, hc, ho]
          rw [e, ← e1] at k
          exact k
      | some x =>
        refine ⟨_, rfl, rfl, false, rfl, iteF ⟨_, rfl, .str x, isW x, rfl, .str _ (z2 x rfl), isW x, rfl, third (fun hx => ?_) fun hx => ?_⟩⟩
        · refine ⟨_, rfl, .str out, isW out, rfl, .str _ z3, isW out, rfl, third (fun ho => ?_) fun ho => ?_⟩
          · have e : isActB ⟨cb, some x, out⟩ = true := by simp [isActB, hc, hx, ho]
            rw [e] at k
            exact k
          · refine ⟨_, rfl, rfl, ?_⟩
            have e : isActB ⟨cb, some x, out⟩ = decide (out = "returns") := by simp [isActB, hc, hx, ho]
            rw [e, ← e1] at k
            exact k
        · have e : isActB ⟨cb, some x, out⟩ = false := by simp [isActB, hc, hx]
          rw [e] at k
          exact k
    · have e : isActB ⟨cb, hd, out⟩ = false := by simp [isActB, hc]
      rw [e] at k
      exact k
end
end K2
end
section
set_option Elab.async false
set_option maxRecDepth 100000
set_option linter.all false
/-! the pen's draw -/
namespace K2
open PySem L2
section
variable {P : Program} {w : World} {K : PySem.W.Frag} {mg : Str → Option Value} {base : Heap}
abbrev nDrawB : List Str := ["_law_pen_here", "_law_many", "_law_digit", "_law_begun", "_law_cell", "_law_great", "_law_mixed"]
theorem scDrawB : FnScope nDrawB ["_law_pen_here", "_law_many"] (defScope sDraw) := ⟨rfl, rfl, rfl, by decide +kernel, rfl, by decide +kernel, by decide +kernel⟩
theorem ok_draw {f : Addr} {fd : FuncData} (F : Fun K "_law_draw" "_law_draw" sDraw f fd) (T : Bi mg) : FnOk P w K mg base CX0 1 f fd ["_law_pen_here", "_law_many"] spDraw := by
  refine F.ok scDrawB (fun vs H Q E h => ?_) (fun cdv A outer s H vs Q E hr h => ?_)
  · obtain ⟨p, c, ns, n, m, rfl, _⟩ := h
    rfl
  · obtain ⟨p, c, ns, n, m, rfl, hP, hn, m0, m1, k⟩ := h
    have hmne : m ≠ 0 := by omega
    have hmab : m.natAbs < 1073741824 := by omega
    obtain ⟨a, l, hp, a0, an, l0⟩ := hP.pen
    unfold penO at hp
    refine ⟨_, (pss_cons (ps_if (pt_cmpR op_gt (pe_ix ix_list (pv 0) pe_int (fun _ _ => rfl)) pe_int (nomark _))
      (pss_cons (ps_set (i := 2) scDrawB.nd rfl (Or.inl rfl) (pe_op op_modN (pe_callTy call_int1 (by rfl) T.int (by decide +kernel) (pa_cons (pe_ix ix_list (pv 0) pe_int (fun _ _ => rfl)) pa_nil)) (pv 1)))
        (pss_cons (ps_asg (pe_op op_fdivN (pe_callTy call_int1 (by rfl) T.int (by decide +kernel) (pa_cons (pe_ix ix_list (pv 0) pe_int (fun _ _ => rfl)) pa_nil)) (pv 1)) (pg_sub (pv 0) pe_int set_list))
        (pss_one (ps_ret (pv 2)))))
      pss_nil)
      (pss_cons (ps_set (i := 3) scDrawB.nd rfl (Or.inl rfl) (pe_ix ix_list (pv 0) pe_int (fun _ _ => rfl)))
      (pss_cons (ps_asg (pe_op op_add (pv 3) pe_int) (pg_sub (pv 0) pe_int set_list))
      (pss_cons (ps_set (i := 4) scDrawB.nd rfl (Or.inl rfl) (pe_op op_add (pe_op op_mul pe_int (pv 3)) pe_int))
      (pss_cons (ps_if (pt_cmpR (op_neD hr.units) (pe_ix ix_list (pv 0) pe_int (fun _ _ => rfl)) (pe_lst pa_nil) (nomark _))
      (pss_one (ps_set (i := 4) scDrawB.nd rfl (Or.inl rfl) (pe_ix ix_list (pe_ix ix_list (pv 0) pe_int (fun _ _ => rfl)) (pe_op op_modN (pe_callTy call_int1 (by rfl) T.int (by decide +kernel) (pa_cons (pv 3) pa_nil)) (pe_callB call_len_seq (by rfl) T.len PySem.boot_len (pa_cons (pe_ix ix_list (pv 0) pe_int (fun _ _ => rfl)) pa_nil))) (fun _ _ => rfl))))
      pss_nil)
      (pss_cons (ps_if (PW.pt (pw_and (pt_cmpR op_lt (pv 3) (pe_callB call_len_seq (by rfl) T.len PySem.boot_len (pa_cons (pe_ix ix_list (pv 0) pe_int (fun _ _ => rfl)) pa_nil)) (nomark _)) (pw_and1 (pt_cmpR op_ge (pe_callB call_abs (by rfl) T.abs (by decide +kernel) (pa_cons (pv 4) pa_nil)) (pe_op op_pow pe_int pe_int) (nomark _)))))
      (pss_cons (ps_set (i := 5) scDrawB.nd rfl (Or.inl rfl) (pe_op op_add (pe_op op_mul pe_int (pe_op op_sub (pe_callB call_abs (by rfl) T.abs (by decide +kernel) (pa_cons (pv 4) pa_nil)) (pe_op op_pow pe_int pe_int))) (pe_callTy call_int1 (by rfl) T.int (by decide +kernel) (pa_cons (pe_cmpR op_lt (pv 4) pe_int (nomark _)) pa_nil))))
        (pss_cons (ps_asg (pe_op op_fdivN (pe_callTy call_int1 (by rfl) T.int (by decide +kernel) (pa_cons (pv 5) pa_nil)) (pv 1)) (pg_sub (pv 0) pe_int set_list))
        (pss_one (ps_ret (pe_op op_modN (pe_callTy call_int1 (by rfl) T.int (by decide +kernel) (pa_cons (pv 5) pa_nil)) (pv 1))))))
      pss_nil)
      (pss_cons (ps_set (i := 6) scDrawB.nd rfl (Or.inl rfl) (pe_op op_modN (pe_callTy call_int1 (by rfl) T.int (by decide +kernel) (pa_cons (pe_op op_pow (pe_op op_add (pe_op op_add (pe_op op_modN (pe_callTy call_int1 (by rfl) T.int (by decide +kernel) (pa_cons (pv 4) pa_nil)) pe_int) (pe_op op_mul pe_int (pv 3))) pe_int) pe_int) pa_nil)) pe_int))
      (pss_cons (ps_set (i := 6) scDrawB.nd rfl (Or.inl rfl) (pe_op op_modN (pe_callTy call_int1 (by rfl) T.int (by decide +kernel) (pa_cons (pe_op op_pow (pe_op op_add (pe_op op_add (pe_op op_mul (pv 6) (pe_op op_add (pe_op op_mul pe_int (pv 3)) pe_int)) (pe_op op_mul (pe_op op_mul pe_int (pv 3)) (pv 3))) pe_int) pe_int) pa_nil)) pe_int))
      (pss_one (ps_ret (pe_op op_modN (pe_op op_fdivN (pe_callTy call_int1 (by rfl) T.int (by decide +kernel) (pa_cons (pv 6) pa_nil)) pe_int) (pv 1)))))))))))), ?_⟩
    refine ⟨_, rfl, p, _, _, _, rfl, rfl, SqL.of hp, atI_nat (j := 2) rfl, _, _, rfl, rfl, _, rfl, ite2 (fun hg => ?_) (fun hg => ?_)⟩
    · have hl := of_decide_eq_true hg
      refine ⟨_, rfl, p, _, _, _, rfl, rfl, SqL.of hp, atI_nat (j := 2) rfl, .inl ⟨_, rfl, _, rfl, _, _, rfl, rfl, hmne, ?_⟩⟩
      refine ⟨_, rfl, p, _, _, _, rfl, rfl, SqL.of hp, atI_nat (j := 2) rfl, .inl ⟨_, rfl, _, rfl, _, _, rfl, rfl, ⟨hmne, hmab⟩, _, rfl, p, _, _, 2, rfl, rfl, hp, rfl, _, rfl, ?_⟩⟩
      refine k _ _ (fmod_lo m0) (fmod_hi m0) (Keep.refl _ _).at ?_
      exact hP.set a0 (by omega) (fdiv_nn l0 m0)
    · have hat : a ≤ 100000 := by omega
      refine ⟨_, rfl, p, _, _, _, rfl, rfl, SqL.of hp, atI_nat (j := 1) rfl, _, rfl, _, _, rfl, rfl, _, rfl, p, _, _, 1, rfl, rfl, hp, rfl, ?_⟩
      generalize hH1 : upd H p (HO.lst ([V.ref c, V.int a, V.int l].set 1 ((fun i j => V.int (i + j)) a 1))) = H1
      replace hH1 : upd H p (.lst [.ref c, .int (a + 1), .int l]) = H1 := hH1
      have hp1 : H1 p = some (.lst [.ref c, .int (a + 1), .int l]) := by rw [← hH1]; exact upd_same
      have hc1 : H1 c = some (.lst (ns.map V.int)) := by rw [← hH1, upd_ne hP.ne]; exact hP.cells
      have k1 : Keep p H H1 := by rw [← hH1]; exact (Keep.refl p H).at
      refine ⟨_, rfl, _, _, rfl, rfl, .inl ⟨by decide, by decide⟩, _, _, rfl, rfl, ?_⟩
      refine ⟨_, rfl, p, _, _, _, rfl, rfl, SqL.of hp1, atI_nat (j := 0) rfl, Nat.zero_le _, fun e he => ?_⟩
      have he0 : H e = none := by
        cases q : H e with
        | none => rfl
        | some o =>
          by_cases ep : e = p
          · rw [ep, hp1] at he; cases he
          · rw [k1 e o q ep] at he; cases he
      have hp2 : (upd H1 e (.lst [])) p = some (.lst [.ref c, .int (a + 1), .int l]) := by rw [upd_ne (ne_of_none hp1 he)]; exact hp1
      have hc2 : (upd H1 e (.lst [])) c = some (.lst (ns.map V.int)) := by rw [upd_ne (ne_of_none hc1 he)]; exact hc1
      have k2 : Keep p H (upd H1 e (.lst [])) := k1.new he0
      have P2 : Pen (upd H1 e (.lst [])) p c ns (n + 1) := ⟨⟨a + 1, l, hp2, by omega, by omega, l0⟩, hc2, hP.small⟩
      have hee : (upd H1 e (.lst [])) e = some (.lst []) := upd_same
      generalize hH2 : upd H1 e (.lst []) = H2 at hp2 hc2 k2 P2 hee ⊢
      refine ⟨.list (ns.map PyData.int), .list [], .lst (SqL.of hc2) (ints_dp _ _ ns), .lst (SqL.of hee) .nil, shaped_ints ns, rfl, _, rfl, ?_⟩
      rw [eqv_nil]
      have hz0 : ns = [] ∨ ∃ z r, ns = z :: r := by cases ns with
        | nil => exact .inl rfl
        | cons z r => exact .inr ⟨z, r, rfl⟩
      have hzc : ∀ j : Nat, j < ns.length → ∃ z : Int, (ns.map V.int)[j]? = some (V.int z) := fun j hj => ⟨ns[j], by rw [List.getElem?_map, List.getElem?_eq_getElem hj]; rfl⟩
      refine ite2 (fun hb => ?b1) (fun hb => ?b2)
      case' b1 =>
        have hlen : 0 < ns.length := by
          cases ns with
          | nil => cases hb
          | cons z r => simp
        have hlen2 : (0 : Int) < ((ns.map V.int).length : Int) := by rw [List.length_map]; omega
        obtain ⟨j, hj⟩ : ∃ j : Nat, a.fmod ((ns.map V.int).length : Int) = (j : Int) := ⟨(a.fmod ((ns.map V.int).length : Int)).toNat, (Int.toNat_of_nonneg (fmod_lo hlen2)).symm⟩
        have hj2 : j < ns.length := by
          have := fmod_hi (a := a) hlen2
          rw [hj, List.length_map] at this
          omega
        obtain ⟨z, hz⟩ := hzc j hj2
        refine ⟨_, rfl, p, _, _, _, rfl, rfl, SqL.of hp2, atI_nat (j := 0) rfl, _, rfl, .inl ⟨_, rfl, _, rfl, p, _, _, _, rfl, rfl, SqL.of hp2, atI_nat (j := 0) rfl, c, _, rfl, .inl (SqL.of hc2), _, _, rfl, rfl, by omega, c, _, _, _, rfl, rfl, SqL.of hc2, at_of hj hz, ?_⟩⟩
      case' b2 => generalize hz9 : (fun i j => V.int (i + j)) (52711 * a) 907 = zz; replace hz9 : zz = .int (52711 * a + 907) := hz9.symm; subst hz9; generalize 52711 * a + 907 = z
      all_goals
        have pw18 : (10 : Int) ^ (18 : Int).toNat = 1000000000000000000 := by decide
        have tl : ∀ (v : Int), 0 ≤ v → v < m → Q (.int v) H2 := fun v h0 h1 => k v H2 h0 h1 k2 P2
        refine (fun t => ⟨_, rfl, _, rfl, p, _, _, _, rfl, rfl, SqL.of hp2, atI_nat (j := 0) rfl, c, _, rfl, .inl (SqL.of hc2), _, _, rfl, rfl, _, rfl, ite2 (fun hq1 =>
          ⟨_, rfl, _, rfl, _, _, rfl, rfl, ⟨by decide, by decide, by decide⟩, _, _, rfl, rfl, _, rfl, ite2 (fun hq2 => ?_) (fun _ => t)⟩) (fun _ => iteF t)⟩) ?_
        · refine ⟨_, rfl, .inl ⟨_, rfl, _, _, rfl, rfl, (by show (2147483563 : Int) ≠ 0; decide), _, rfl, _, _, rfl, rfl, .inl ⟨by decide, by decide⟩, _, _, rfl, rfl, _, _, rfl, rfl, _, _, rfl, rfl, ⟨by decide, by decide, ?_⟩, .inl ⟨_, rfl, _, _, rfl, rfl, (by show (2147483629 : Int) ≠ 0; decide), ?_⟩⟩⟩
          · have h1 := fmod_lo (a := z) (m := 2147483563) (by decide)
            have h2 := fmod_hi (a := z) (m := 2147483563) (by decide)
            generalize z.fmod 2147483563 = y at h1 h2 ⊢
            omega
          have g1 := fmod_lo (a := (z.fmod 2147483563 + 84713 * a + 29) ^ (5 : Int).toNat) (m := 2147483629) (by decide)
          have g2 := fmod_hi (a := (z.fmod 2147483563 + 84713 * a + 29) ^ (5 : Int).toNat) (m := 2147483629) (by decide)
          have b1 := mul_bnd (X := 2147483629) (y := 2 * a + 31) (Y := 200031) g1 (Int.le_of_lt g2) (by omega) (by omega)
          have b2 := mul_bnd (x := 65063 * a) (X := 6506300000) (y := a) (Y := 100000) (by omega) (by omega) a0 hat
          refine ⟨_, rfl, _, rfl, _, _, rfl, rfl, .inl ⟨by decide, by decide⟩, _, _, rfl, rfl, _, _, rfl, rfl, .inl ⟨?_, ?_⟩, _, rfl, _, _, rfl, rfl, .inl ⟨by decide, by decide⟩, _, rfl, _, _, rfl, rfl, .inl ⟨?_, ?_⟩, _, _, rfl, rfl, _, _, rfl, rfl, _, _, rfl, rfl, ⟨by decide, by decide, ?_⟩, .inl ⟨_, rfl, _, _, rfl, rfl, (by show (2147483647 : Int) ≠ 0; decide), ?_⟩⟩
          · omega
          · omega
          · omega
          · omega
          · omega
          have g3 := fmod_lo (a := ((((z.fmod 2147483563 + 84713 * a + 29) ^ (5 : Int).toNat).fmod 2147483629) * (2 * a + 31) + 65063 * a * a + 7) ^ (3 : Int).toNat) (m := 2147483647) (by decide)
          refine ⟨_, rfl, .inl ⟨_, rfl, _, _, rfl, rfl, ⟨by decide, by decide⟩, _, rfl, _, _, rfl, rfl, hmne, tl _ (fmod_lo m0) (fmod_hi m0)⟩⟩
        · have hge := of_decide_eq_true hq2
          have z64 : True := trivial
          refine ⟨_, rfl, _, rfl, _, _, rfl, rfl, ⟨by decide, by decide, by decide⟩, _, _, rfl, rfl, _, _, rfl, rfl, .inl ⟨by decide, by decide⟩, _, rfl, _, _, rfl, rfl, .inr ⟨_, rfl, _, _, rfl, rfl, ?_⟩⟩
          refine ⟨_, rfl, .inl ⟨_, rfl, _, rfl, _, _, rfl, rfl, ⟨hmne, hmab⟩, _, rfl, p, _, _, 2, rfl, rfl, hp2, rfl, _, rfl, .inl ⟨_, rfl, _, rfl, _, _, rfl, rfl, hmne, ?_⟩⟩⟩
          refine k _ _ (fmod_lo m0) (fmod_hi m0) k2.at (P2.set (by omega) (by omega) (fdiv_nn ?_ m0))
          rw [pw18] at hge ⊢
          split at hge <;> split <;> omega
end
end K2
end
section
set_option Elab.async false
set_option maxRecDepth 100000
set_option linter.all false
/-! words of the second style -/
namespace K2
open PySem L2
abbrev sWordsB : Stmt := sWords
abbrev nWordsB : List Str := ["_law_pen_here", "_law_many", "_law_letters", "_law_barred", "_law_base", "_law_found", "_law_k", "_law_at", "_law_word", "_law_j", "_law_some", "_law_letter", "_law_one"]
theorem sub_len {α : Type} [BEq α] [LawfulBEq α] : ∀ {l m : List α}, l.Nodup → (∀ x ∈ l, x ∈ m) → l.length ≤ m.length
  | [], _, _, _ => Nat.zero_le _
  | x :: l, m, nd, h => by
    have nd2 := List.nodup_cons.mp nd
    have hx := h x List.mem_cons_self
    have := sub_len (m := m.erase x) nd2.2 fun y hy => (List.mem_erase_of_ne (fun e => nd2.1 (by rw [← e]; exact hy))).mpr (h y (List.mem_cons_of_mem _ hy))
    rw [List.length_erase_of_mem hx] at this
    have := List.length_pos_of_mem hx
    rw [List.length_cons]
    omega
abbrev lettersS : Str := Str.ofString "abcdefghijklmnopqrstuvwxyz"
/-- what may be taken in the place of w -/
def cands (w : Str) : List Str := w :: (codes lettersS).map fun c => txt ((codes w).take 7 ++ [c])
theorem letters_nd : (codes lettersS).Nodup := by decide +kernel
theorem letters_len : (codes lettersS).length = 26 := by decide +kernel
theorem nodup_map {α β : Type} {f : α → β} (inj : ∀ x y, f x = f y → x = y) : ∀ {l : List α}, l.Nodup → (l.map f).Nodup
  | [], _ => by simp
  | x :: l, nd => by
    have nd2 := List.nodup_cons.mp nd
    rw [List.map_cons]
    refine List.nodup_cons.mpr ⟨fun h => ?_, nodup_map inj nd2.2⟩
    obtain ⟨y, hy, e⟩ := List.mem_map.mp h
    exact nd2.1 (inj _ _ e ▸ hy)
theorem filter_one {α β : Type} [DecidableEq β] {f : α → β} {y : β} : ∀ {l : List α}, (l.map f).Nodup → (l.filter fun x => decide (f x = y)).length ≤ 1
  | [], _ => by simp
  | x :: l, nd => by
    rw [List.map_cons] at nd
    have nd2 := List.nodup_cons.mp nd
    by_cases e : f x = y
    · rw [List.filter_cons_of_pos (by simpa using e)]
      have : l.filter (fun z => decide (f z = y)) = [] := by
        rw [List.filter_eq_nil_iff]
        intro z hz h
        have h := of_decide_eq_true h
        exact nd2.1 (List.mem_map.mpr ⟨z, hz, by rw [h, e]⟩)
      rw [this]
      simp
    · rw [List.filter_cons_of_neg (by simpa using e)]
      exact filter_one nd2.2
theorem barred_drops : (barred.map fun b => (codes b).dropLast).Nodup := by decide +kernel
theorem cand_free (w : Str) {found : List Str} (l : found.length ≤ 20) : ∃ x ∈ cands w, x ∉ found ∧ x ∉ barred := by
  refine Classical.byContradiction fun no => ?_
  have all : ∀ x ∈ (codes lettersS).map (fun c => txt ((codes w).take 7 ++ [c])), x ∈ found ++ barred.filter fun b => decide ((codes b).dropLast = (codes w).take 7) := fun x hx => by
    refine Classical.byContradiction fun q => no ⟨x, List.mem_cons_of_mem _ hx, fun h => q (List.mem_append_left _ h), fun h => q (List.mem_append_right _ ?_)⟩
    obtain ⟨c, hc, rfl⟩ := List.mem_map.mp hx
    refine List.mem_filter.mpr ⟨h, decide_eq_true ?_⟩
    rw [codes_txt, List.dropLast_concat]
  have nd : ((codes lettersS).map fun c => txt ((codes w).take 7 ++ [c])).Nodup := nodup_map (fun a b e => by
    have := congrArg codes e
    rw [codes_txt, codes_txt] at this
    exact List.singleton_inj.mp (List.append_cancel_left this)) letters_nd
  have h1 := sub_len nd all
  have h2 := filter_one (y := (codes w).take 7) barred_drops
  rw [List.length_map, letters_len, List.length_append] at h1
  omega
/-- a text of one to eight small letters -/
def LowT (x : Str) : Prop := Low (codes x) ∧ 1 ≤ (codes x).length ∧ (codes x).length ≤ 8
theorem cand_low {w x : Str} (h : LowT w) (hx : x ∈ cands w) : LowT x := by
  rcases List.mem_cons.mp hx with rfl | hx
  · exact h
  · obtain ⟨c, hc, rfl⟩ := List.mem_map.mp hx
    have hc2 := low_letters c hc
    unfold LowT
    rw [codes_txt]
    refine ⟨fun d hd => ?_, ?_, ?_⟩
    · rcases List.mem_append.mp hd with hd | hd
      · exact h.1 d (List.mem_of_mem_take hd)
      · rw [List.mem_singleton.mp hd]; exact hc2
    · rw [List.length_append]; show 1 ≤ _ + 1; omega
    · rw [List.length_append, List.length_take]; show _ + 1 ≤ 8; omega
theorem low_vw {x : Str} (h : LowT x) (nb : x ∉ barred) : VW x := ⟨h.1, fun e => by have := h.2.1; rw [e] at this; simp at this, h.2.2, fun q => nb (mem_resd q)⟩
theorem words_snoc {ws : List Str} {x : Str} (h : Words ws) (hx : LowT x) (n1 : x ∉ ws) (n2 : x ∉ barred) : Words (ws ++ [x]) := by
  refine ⟨fun y hy => ?_, fun y hy => ?_, ?_⟩
  · rcases List.mem_append.mp hy with hy | hy
    · exact h.vw y hy
    · rw [List.mem_singleton.mp hy]; exact low_vw hx n2
  · rcases List.mem_append.mp hy with hy | hy
    · exact h.nb y hy
    · rw [List.mem_singleton.mp hy]; exact n2
  · refine List.nodup_append.mpr ⟨h.nd, by simp, fun a ha b hb e => ?_⟩
    rw [List.mem_singleton.mp hb] at e
    exact n1 (e ▸ ha)
theorem words_nil : Words [] := ⟨fun _ h => by simp at h, fun _ h => by simp at h, by simp⟩
theorem cut_toA (z : Str) (k : Nat) : codes (cutS z none (some (k : Int))) = (codes z).take k := by
  unfold cutS codes
  rw [HT.sIx_nat, HT.sIx_none]
  have e : z.length = z.cps.toList.length := len_codes z
  simp only [List.drop_zero, Nat.sub_zero]
  by_cases h : k ≤ z.length
  · rw [Nat.min_eq_left h]
  · rw [Nat.min_eq_right (by omega), List.take_of_length_le (by omega), List.take_of_length_le (by omega)]
theorem cut_fromA (z : Str) (k : Nat) : codes (cutS z (some (k : Int)) none) = (codes z).drop k := by
  unfold cutS codes
  rw [HT.sIx_nat, HT.sIx_none]
  have e : z.length = z.cps.toList.length := len_codes z
  by_cases h : k ≤ z.length
  · rw [Nat.min_eq_left h, e]
    simp only []
    rw [List.take_of_length_le (by rw [List.length_drop]; omega)]
  · rw [Nat.min_eq_right (by omega)]
    simp only [Nat.sub_self, List.take_zero]
    rw [List.drop_of_length_le (by omega)]
theorem pe_imp {X : Cx} {e : Expr} {t t' : TE} (h : PE X e t) (k : ∀ σ H Q, t' σ H Q → t σ H Q) : PE X e t' := ⟨fun pins s σ H Q I q => h.run pins s σ H Q I (k σ H Q q)⟩
/-- one to eight letters joined -/
def tJn : TE := fun σ H Q => ∃ (p c : Addr) (ns : List Int) (n : Nat) (a1 a3 a4 a5 a6 a7 a8 a9 a10 a11 a12 : Option V), σ = [some (.ref p), a1, some (.str lettersS), a3, a4, a5, a6, a7, a8, a9, a10, a11, a12] ∧ Pen H p c ns n ∧ n + 10 ≤ 100000 ∧ ∀ b H', LowT b → Keep p H H' → Pen H' p c ns (n + 9) → Q (.str b) H'
/-- a fresh list of m words -/
def spWordsB : Sp := fun vs H Q _ => ∃ (p c : Addr) (ns : List Int) (n m : Nat), vs = [.ref p, .int m] ∧ Pen H p c ns n ∧ n + 300 ≤ 100000 ∧ m ≤ 20 ∧
  ∀ (l : Addr) (ws : List Str) (H' : Hp), Words ws → ws.length = m → H' l = some (.lst (ws.map V.str)) → l ≠ p → Keep p H H' → Pen H' p c ns (n + 250) → Q (.ref l) H'
section
variable {P : Program} {w : World} {K : PySem.W.Frag} {mg : Str → Option Value} {base : Heap}
theorem scWordsB : FnScope nWordsB ["_law_pen_here", "_law_many"] (defScope sWords) := ⟨rfl, rfl, rfl, by decide +kernel, rfl, by decide +kernel, by decide +kernel⟩
set_option maxHeartbeats 1000000 in
theorem ok_wordsB {f fD : Addr} {fd fdD : FuncData} (F : Fun K "_law_words" "_law_words" sWords f fd) (T : Bi mg) (D : Df K mg "_law_draw" sDraw fD fdD ["_law_pen_here", "_law_many"]) (GD : FnOk P w K mg base CX0 1 fD fdD ["_law_pen_here", "_law_many"] spDraw) : FnOk P w K mg base CX0 2 f fd ["_law_pen_here", "_law_many"] spWordsB := by
  refine F.ok scWordsB (fun vs H Q E h => ?_) (fun cdv A outer s H vs Q E hr h => ?_)
  · obtain ⟨p, c, ns, n, m, rfl, _⟩ := h
    rfl
  · obtain ⟨p, c, ns, n, m, rfl, P0, hn, hm, k⟩ := h
    have hr1 : Room 1 _ := hr
    refine ⟨_, (pss_cons (ps_set (i := 2) scWordsB.nd rfl (Or.inr rfl) pe_str)
      (pss_cons (ps_set (i := 3) scWordsB.nd rfl (Or.inr rfl) (pe_lst (pa_cons pe_str (pa_cons pe_str (pa_cons pe_str (pa_cons pe_str (pa_cons pe_str (pa_cons pe_str (pa_cons pe_str (pa_cons pe_str (pa_cons pe_str (pa_cons pe_str (pa_cons pe_str pa_nil)))))))))))))
      (pss_cons (ps_set (i := 3) scWordsB.nd rfl (Or.inr rfl) (pe_op op_cat (pv 3) (pe_lst (pa_cons pe_str (pa_cons pe_str (pa_cons pe_str (pa_cons pe_str (pa_cons pe_str (pa_cons pe_str (pa_cons pe_str (pa_cons pe_str (pa_cons pe_str (pa_cons pe_str (pa_cons pe_str pa_nil))))))))))))))
      (pss_cons (ps_set (i := 3) scWordsB.nd rfl (Or.inr rfl) (pe_op op_cat (pv 3) (pe_lst (pa_cons pe_str (pa_cons pe_str pa_nil)))))
      (pss_cons (ps_set (i := 4) scWordsB.nd rfl (Or.inl rfl) (pe_imp (t' := tJn) (pe_join pe_str (pe_lc (own := [("_law_k", 6)]) (g := gName 6) (tt := tYes) rfl scWordsB.nd (pi_range1 rfl T.range (pa_cons (pe_op op_add pe_int (pe_call GD hr1 (by rfl) D.m D.F.kp D.b .nil pass0 (pa_cons (pv 0) (pa_cons pe_int pa_nil)))) pa_nil)) (blkOk_by (N := nWordsB) (sc := defScope sWords) (by decide +kernel)) (fun _ _ _ _ _ => pg_name (i := 6) scWordsB.nd rfl (Or.inl rfl)) (fun _ _ _ _ _ => pts_nil) (fun _ _ _ _ _ => pe_ix ix_str (pv 2) (pe_call GD hr1 (by rfl) D.m D.F.kp D.b .nil pass0 (pa_cons (pv 0) (pa_cons pe_int pa_nil))) (fun _ _ => rfl)))) (fun σ H Q h => ?j0)))
      (pss_cons (ps_set (i := 5) scWordsB.nd rfl (Or.inr rfl) (pe_lst pa_nil))
      (pss_cons (ps_for PassesOwn.never rfl (pi_range1 rfl T.range (pa_cons (pv 1) pa_nil)) (pg_name (i := 6) scWordsB.nd rfl (Or.inl rfl))
      (pss_cons (ps_set (i := 7) scWordsB.nd rfl (Or.inl rfl) (pe_call GD hr1 (by rfl) D.m D.F.kp D.b .nil pass0 (pa_cons (pv 0) (pa_cons (pe_op op_add (pe_callB call_len_str (by rfl) T.len PySem.boot_len (pa_cons (pv 4) pa_nil)) pe_int) pa_nil))))
        (pss_cons (ps_set (i := 8) scWordsB.nd rfl (Or.inr rfl) (pe_op op_add_str (pe_op op_add_str (pe_slice sl_str (pv 4) po_none (po_some (pv 7))) (pe_ix ix_str (pv 2) (pe_call GD hr1 (by rfl) D.m D.F.kp D.b .nil pass0 (pa_cons (pv 0) (pa_cons pe_int pa_nil))) (fun _ _ => rfl))) (pe_slice sl_str (pv 4) (po_some (pe_op op_add (pv 7) pe_int)) po_none)))
        (pss_cons (ps_if (pt_cmpR op_eq (pv 7) (pe_callB call_len_str (by rfl) T.len PySem.boot_len (pa_cons (pv 4) pa_nil)) (nomark _))
        (pss_one (ps_set (i := 8) scWordsB.nd rfl (Or.inr rfl) (pe_slice sl_str (pv 4) po_none (po_some (pe_op op_add pe_int (pe_call GD hr1 (by rfl) D.m D.F.kp D.b .nil pass0 (pa_cons (pv 0) (pa_cons (pe_callB call_len_str (by rfl) T.len PySem.boot_len (pa_cons (pv 4) pa_nil)) pa_nil))))))))
        (pss_one (ps_if (pt_cmpR op_gt (pv 7) (pe_callB call_len_str (by rfl) T.len PySem.boot_len (pa_cons (pv 4) pa_nil)) (nomark _))
          (pss_one (ps_set (i := 8) scWordsB.nd rfl (Or.inr rfl) (pe_imp (t' := tJn) (pe_join pe_str (pe_lc (own := [("_law_j", 9)]) (g := gName 9) (tt := tYes) rfl scWordsB.nd (pi_range1 rfl T.range (pa_cons (pe_op op_add pe_int (pe_call GD hr1 (by rfl) D.m D.F.kp D.b .nil pass0 (pa_cons (pv 0) (pa_cons pe_int pa_nil)))) pa_nil)) (blkOk_by (N := nWordsB) (sc := defScope sWords) (by decide +kernel)) (fun _ _ _ _ _ => pg_name (i := 9) scWordsB.nd rfl (Or.inl rfl)) (fun _ _ _ _ _ => pts_nil) (fun _ _ _ _ _ => pe_ix ix_str (pv 2) (pe_call GD hr1 (by rfl) D.m D.F.kp D.b .nil pass0 (pa_cons (pv 0) (pa_cons pe_int pa_nil))) (fun _ _ => rfl)))) (fun σ H Q h => ?j1))))
          pss_nil)))
        (pss_cons (ps_set (i := 10) scWordsB.nd rfl (Or.inl rfl) (pe_op op_cat (pe_lst (pa_cons (pv 8) pa_nil)) (pe_lc (own := [("_law_letter", 11)]) (g := gName 11) (tt := tYes) rfl scWordsB.nd (pi_str (pv 2)) (blkOk_by (N := nWordsB) (sc := defScope sWords) (by decide +kernel)) (fun _ _ _ _ _ => pg_name (i := 11) scWordsB.nd rfl (Or.inl rfl)) (fun _ _ _ _ _ => pts_nil) (fun _ _ _ _ _ => pe_op op_add_str (pe_slice sl_str (pv 8) po_none (po_some pe_int)) (pv 11)))))
        (pss_one (ps_expr (pe_bm PySem.F.plainAttrs_list PySem.F.slot_list_append PySem.F.type_list_append mt_append (pv 5) (pa_cons (pe_ix ix_list (pe_lc (own := [("_law_one", 12)]) (g := gName 12)  rfl scWordsB.nd (pi_list (pv 10)) (blkOk_by (N := nWordsB) (sc := defScope sWords) (by decide +kernel)) (fun _ _ _ _ _ => pg_name (i := 12) scWordsB.nd rfl (Or.inl rfl)) (fun _ _ _ _ _ => pts_one (PW.pt (pw_and (pt_cmpR (op_notIn_seqK (K' := K) rfl) (pv 12) (pv 5) rfl) (pw_and1 (pt_cmpR (op_notIn_seqK (K' := K) rfl) (pv 12) (pv 3) rfl))))) (fun _ _ _ _ _ => pv 12)) pe_int (fun _ _ => rfl)) pa_nil)))))))))
      (pss_one (ps_ret (pv 5)))))))))), ?_⟩
    case j0 =>
      obtain ⟨p, c, ns, n, a1, a3, a4, a5, a6, a7, a8, a9, a10, a11, a12, rfl, P0, hn, k⟩ := h
      refine ⟨⟨_, rfl⟩, _, rfl, p, c, ns, n, 8, rfl, P0, by omega, by decide, by decide, fun v1 H1 v10 v11 k1 P1 => ?_⟩
      obtain ⟨q1, rfl⟩ : ∃ j : Nat, v1 = (j : Int) := ⟨v1.toNat, (Int.toNat_of_nonneg v10).symm⟩
      refine ⟨_, _, rfl, rfl, ((1 + q1 : Nat) : Int), rfl, by omega, by omega, fun D1 hD1 => ?_⟩
      have hD1H : H D1 = none := k1.fresh P1 hD1
      have hpD := P1.pne hD1
      have hcD := P1.cne hD1
      refine lc_range (lo := 0) (n := 1 + q1) (fun i Hc => ∃ ys : List Nat, Low ys ∧ ys.length = i ∧ Hc D1 = some (.lst ((ys.map fun c => (⟨#[c]⟩ : Str)).map V.str)) ∧ Keep p H Hc ∧ Pen Hc p c ns (n + 1 + i)) ?_ ?_ ?_
      · exact ⟨[], fun _ h => (by cases h), rfl, upd_same, k1.new hD1H, P1.new hD1⟩
      · rintro i Hc hi ⟨ys, hys, hyl, hD, kc, Pc⟩
        refine ⟨rfl, _, rfl, _, rfl, p, c, ns, n + 1 + i, 26, rfl, Pc, by omega, by decide, by decide, fun dv Hd d0 d1 kd Pd => ?_⟩
        obtain ⟨j, rfl⟩ : ∃ j : Nat, dv = (j : Int) := ⟨dv.toNat, (Int.toNat_of_nonneg d0).symm⟩
        have hj : j < 26 := by omega
        refine ⟨_, _, _, rfl, rfl, by decide +kernel, atI_nat (at_letters _ hj), ?_⟩
        refine ⟨_, kd D1 _ hD hpD.symm, ?_, ys ++ [97 + j], ?_, ?_, ?_, ?_, ?_⟩
        · rw [List.length_map, List.length_map, hyl]
          show _ < 16777216
          omega
        · intro d hd
          rcases List.mem_append.mp hd with hd | hd
          · exact hys d hd
          · have : d = 97 + j := by simpa using hd
            omega
        · rw [List.length_append, hyl]
          rfl
        · rw [upd_same, List.map_append, List.map_append]
          rfl
        · exact (kc.trans kd).new hD1H
        · exact Pd.upd' hpD hcD
      · rintro Hj ⟨ys, hys, hyl, hD, kj, Pj⟩
        refine ⟨Str.empty, D1, ys.map fun c => (⟨#[c]⟩ : Str), rfl, rfl, .inl (SqL.of hD), ?_, ?_⟩
        · rw [sum_ones, List.length_map]
          show ys.length + ys.length * 0 ≤ 16777216
          omega
        have hb0 := join_ones ys
        generalize Txt.join Str.empty (ys.map fun c => (⟨#[c]⟩ : Str)) = b0 at hb0
        exact k b0 Hj ⟨by rw [hb0]; exact hys, by rw [hb0]; omega, by rw [hb0]; omega⟩ kj (Pj.mono (by omega))
    case j1 =>
      obtain ⟨p, c, ns, n, a1, a3, a4, a5, a6, a7, a8, a9, a10, a11, a12, rfl, P0, hn, k⟩ := h
      refine ⟨⟨_, rfl⟩, _, rfl, p, c, ns, n, 8, rfl, P0, by omega, by decide, by decide, fun v1 H1 v10 v11 k1 P1 => ?_⟩
      obtain ⟨q1, rfl⟩ : ∃ j : Nat, v1 = (j : Int) := ⟨v1.toNat, (Int.toNat_of_nonneg v10).symm⟩
      refine ⟨_, _, rfl, rfl, ((1 + q1 : Nat) : Int), rfl, by omega, by omega, fun D1 hD1 => ?_⟩
      have hD1H : H D1 = none := k1.fresh P1 hD1
      have hpD := P1.pne hD1
      have hcD := P1.cne hD1
      refine lc_range (lo := 0) (n := 1 + q1) (fun i Hc => ∃ ys : List Nat, Low ys ∧ ys.length = i ∧ Hc D1 = some (.lst ((ys.map fun c => (⟨#[c]⟩ : Str)).map V.str)) ∧ Keep p H Hc ∧ Pen Hc p c ns (n + 1 + i)) ?_ ?_ ?_
      · exact ⟨[], fun _ h => (by cases h), rfl, upd_same, k1.new hD1H, P1.new hD1⟩
      · rintro i Hc hi ⟨ys, hys, hyl, hD, kc, Pc⟩
        refine ⟨rfl, _, rfl, _, rfl, p, c, ns, n + 1 + i, 26, rfl, Pc, by omega, by decide, by decide, fun dv Hd d0 d1 kd Pd => ?_⟩
        obtain ⟨j, rfl⟩ : ∃ j : Nat, dv = (j : Int) := ⟨dv.toNat, (Int.toNat_of_nonneg d0).symm⟩
        have hj : j < 26 := by omega
        refine ⟨_, _, _, rfl, rfl, by decide +kernel, atI_nat (at_letters _ hj), ?_⟩
        refine ⟨_, kd D1 _ hD hpD.symm, ?_, ys ++ [97 + j], ?_, ?_, ?_, ?_, ?_⟩
        · rw [List.length_map, List.length_map, hyl]
          show _ < 16777216
          omega
        · intro d hd
          rcases List.mem_append.mp hd with hd | hd
          · exact hys d hd
          · have : d = 97 + j := by simpa using hd
            omega
        · rw [List.length_append, hyl]
          rfl
        · rw [upd_same, List.map_append, List.map_append]
          rfl
        · exact (kc.trans kd).new hD1H
        · exact Pd.upd' hpD hcD
      · rintro Hj ⟨ys, hys, hyl, hD, kj, Pj⟩
        refine ⟨Str.empty, D1, ys.map fun c => (⟨#[c]⟩ : Str), rfl, rfl, .inl (SqL.of hD), ?_, ?_⟩
        · rw [sum_ones, List.length_map]
          show ys.length + ys.length * 0 ≤ 16777216
          omega
        have hb0 := join_ones ys
        generalize Txt.join Str.empty (ys.map fun c => (⟨#[c]⟩ : Str)) = b0 at hb0
        exact k b0 Hj ⟨by rw [hb0]; exact hys, by rw [hb0]; omega, by rw [hb0]; omega⟩ kj (Pj.mono (by omega))
    -- the words that are barred
    refine ⟨(by show 11 ≤ sizeLine; decide), fun b1 hb1 => ?_⟩
    generalize hx1 : [V.str "pass", .str "raise", .str "from", .str "none", .str "again", .str "return", .str "returns", .str "break", .str "call", .str "handling", .str "else"] = x1 at hb1 ⊢
    have s1 : Same H (upd H b1 (.lst x1)) := (Same.refl H).put hb1
    have e1 : (upd H b1 (.lst x1)) b1 = some (.lst x1) := upd_same
    generalize upd H b1 (.lst x1) = H1 at s1 e1 ⊢
    refine ⟨_, rfl, (by show 11 ≤ sizeLine; decide), fun b2 hb2 => ?_⟩
    generalize hx2 : [V.str "either", .str "or", .str "loop", .str "try", .str "except", .str "as", .str "finally", .str "with", .str "quiet", .str "class", .str "def"] = x2 at hb2 ⊢
    have s2 : Same H1 (upd H1 b2 (.lst x2)) := (Same.refl H1).put hb2
    have e2 : (upd H1 b2 (.lst x2)) b2 = some (.lst x2) := upd_same
    generalize upd H1 b2 (.lst x2) = H2 at s2 e2 ⊢
    refine ⟨b1, b2, _, _, rfl, rfl, s2 _ _ e1, e2, (by rw [← hx1, ← hx2]; show 22 ≤ 16777216; decide), fun b3 hb3 => ?_⟩
    have s3 : Same H2 (upd H2 b3 (.lst (x1 ++ x2))) := (Same.refl H2).put hb3
    have e3 : (upd H2 b3 (.lst (x1 ++ x2))) b3 = some (.lst (x1 ++ x2)) := upd_same
    generalize upd H2 b3 (.lst (x1 ++ x2)) = H3 at s3 e3 ⊢
    refine ⟨_, rfl, (by show 2 ≤ sizeLine; decide), fun b4 hb4 => ?_⟩
    generalize hx3 : [V.str "error", .str "vacant"] = x3 at hb4 ⊢
    have s4 : Same H3 (upd H3 b4 (.lst x3)) := (Same.refl H3).put hb4
    have e4 : (upd H3 b4 (.lst x3)) b4 = some (.lst x3) := upd_same
    generalize upd H3 b4 (.lst x3) = H4 at s4 e4 ⊢
    refine ⟨b3, b4, _, _, rfl, rfl, s4 _ _ e3, e4, (by rw [← hx1, ← hx2, ← hx3]; show 24 ≤ 16777216; decide), fun bl hbl => ?_⟩
    have eb : x1 ++ x2 ++ x3 = barred.map V.str := by rw [← hx1, ← hx2, ← hx3]; rfl
    rw [eb]
    clear hx1 hx2 hx3 eb e1 e2 e3 e4
    have s5 : Same H4 (upd H4 bl (.lst (barred.map V.str))) := (Same.refl H4).put hbl
    have e5 : (upd H4 bl (.lst (barred.map V.str))) bl = some (.lst (barred.map V.str)) := upd_same
    have s05 := (((s1.trans s2).trans s3).trans s4).trans s5
    have nbl : bl ≠ p := ((P0.same (((s1.trans s2).trans s3).trans s4)).pne hbl).symm
    generalize upd H4 bl (.lst (barred.map V.str)) = H5 at s05 e5 ⊢
    have P5 := P0.same s05
    clear s1 s2 s3 s4 s5
    refine ⟨p, c, ns, n, _, _, _, _, _, _, _, _, _, _, _, rfl, P5, by omega, fun b H6 hb k6 P6 => ?_⟩
    have e6 := k6 _ _ e5 nbl
    have lb := len_codes b
    refine ⟨Nat.zero_le _, fun l hl => ?_⟩
    have nl : l ≠ p := (P6.pne hl).symm
    have ncl : c ≠ l := P6.cne hl
    have k06 : Keep p H H6 := s05.keep.trans k6
    have hlH : H l = none := k06.fresh P6 hl
    have nbl2 : bl ≠ l := ne_of_none e6 hl
    refine ⟨_, rfl, _, rfl, by omega, by omega, for_range (lo := 0) (n := m) (fun i σ Hc => ∃ (v6 v7 v8 v9 v10 v11 v12 : Option V) (ws : List Str), σ = [some (.ref p), some (.int m), some (.str lettersS), some (.ref bl), some (.str b), some (.ref l), v6, v7, v8, v9, v10, v11, v12] ∧
      Words ws ∧ ws.length = i ∧ Hc l = some (.lst (ws.map V.str)) ∧ Hc bl = some (.lst (barred.map V.str)) ∧ Keep p H Hc ∧ Pen Hc p c ns (n + 10 + 12 * i)) ?_ ?_ ?_⟩
    · exact ⟨_, _, _, _, _, _, _, [], rfl, words_nil, rfl, upd_same, by rw [upd_ne nbl2]; exact e6, k06.new hlH, (P6.new hl).mono (by omega)⟩
    · rintro i σ Hc hi ⟨v6, v7, v8, v9, v10, v11, v12, ws, rfl, hws, wsl, hL, hB, kc, Pc⟩
      have i20 : i < 20 := by omega
      refine ⟨_, rfl, _, rfl, _, rfl, (by rw [lb]; show _ ≤ 16777216; have := hb.2.2; omega), _, _, rfl, rfl, p, c, ns, _, _, rfl, Pc, by omega, by omega, (by rw [lb]; have := hb.2.2; omega), fun dv H7 d0 d1 k7 P7 => ?_⟩
      obtain ⟨at', rfl⟩ : ∃ j : Nat, dv = (j : Int) := ⟨dv.toNat, (Int.toNat_of_nonneg d0).symm⟩
      have k07 := kc.trans k7
      have bl8 := hb.2.2
      refine ⟨_, rfl, _, rfl, _, rfl, _, rfl, (by rw [lb]; show _ ≤ 16777216; omega), _, rfl, _, rfl, p, c, ns, _, 26, rfl, P7, by omega, by decide, by decide, fun dl H8 l0 l1 k8 P8 => ?_⟩
      obtain ⟨jl, rfl⟩ : ∃ j : Nat, dl = (j : Int) := ⟨dl.toNat, (Int.toNat_of_nonneg l0).symm⟩
      have hjl : jl < 26 := by omega
      have k08 := k07.trans k8
      refine ⟨_, _, _, rfl, rfl, by decide +kernel, atI_nat (at_letters _ hjl), _, _, rfl, rfl, ?len1, _, rfl, _, rfl, _, _, rfl, rfl, _, rfl, _, rfl, (by rw [lb]; show _ ≤ 16777216; omega), _, _, rfl, rfl, ?len2, ?_⟩
      case len1 =>
        rw [len_codes (cutS b none (some (at' : Int))), cut_toA, List.length_take]
        show _ + 1 ≤ 16777216
        omega
      case len2 =>
        rw [len_codes (cutS b none (some (at' : Int)) ++ _), codes_append, cut_toA, show ((at' : Int) + 1) = ((at' + 1 : Nat) : Int) from rfl, len_codes (cutS b _ none), cut_fromA, List.length_append, List.length_take, List.length_drop]
        show _ + 1 + _ ≤ 16777216
        omega
      have hW : codes (cutS b none (some (at' : Int)) ++ (⟨#[97 + jl]⟩ : Str) ++ cutS b (some ((at' : Int) + 1)) none) = (codes b).take at' ++ [97 + jl] ++ (codes b).drop (at' + 1) := by
        rw [codes_append, codes_append, cut_toA, show ((at' : Int) + 1) = ((at' + 1 : Nat) : Int) from rfl, cut_fromA]
        rfl
      generalize cutS b none (some (at' : Int)) ++ (⟨#[97 + jl]⟩ : Str) ++ cutS b (some ((at' : Int) + 1)) none = W at hW ⊢
      refine ⟨_, rfl, _, rfl, _, rfl, (by rw [lb]; show _ ≤ 16777216; omega), rfl, _, rfl, ite2 (fun z => ?ca) (fun z => ?cb)⟩
      case' ca =>
        refine ⟨_, rfl, _, rfl, _, rfl, _, rfl, (by rw [lb]; show _ ≤ 16777216; omega), p, c, ns, _, _, rfl, P8, by omega, (by rw [lb]; have := hb.2.1; omega), (by rw [lb]; omega), fun dk H9 q0 q1 k9 P9 => ?_⟩
        obtain ⟨dn, rfl⟩ : ∃ j : Nat, dk = (j : Int) := ⟨dk.toNat, (Int.toNat_of_nonneg q0).symm⟩
        have k09 := k08.trans k9
        have k79 := (k7.trans k8).trans k9
        have hx : LowT (cutS b none (some (1 + (dn : Int)))) := by
          unfold LowT
          rw [show (1 + (dn : Int)) = ((1 + dn : Nat) : Int) from rfl, cut_toA, List.length_take]
          refine ⟨fun d hd => hb.1 d (List.mem_of_mem_take hd), ?_, by omega⟩
          have := hb.2.1
          omega
        refine ⟨_, _, rfl, rfl, _, rfl, _, rfl, (by rw [lb]; show _ ≤ 16777216; omega), ?_⟩
        generalize cutS b none (some (1 + (dn : Int))) = x at hx ⊢
        replace P9 := P9.mono (m := n + 10 + 12 * i + 11) (by omega)
      case' cb =>
        have ne : at' ≠ (codes b).length := fun e => z (by rw [e, ← lb]; exact decide_eq_true rfl)
        refine ⟨_, rfl, _, rfl, _, rfl, (by rw [lb]; show _ ≤ 16777216; omega), _, _, rfl, rfl, _, rfl, ite2 (fun z2 => ?cc) (fun z2 => ?cd)⟩
      case' cc =>
        refine ⟨p, c, ns, _, _, _, _, _, _, _, _, _, _, _, _, rfl, P8, by omega, fun x H9 hx k9 P9 => ?_⟩
        have k09 := k08.trans k9
        have k79 := (k7.trans k8).trans k9
        replace P9 := P9.mono (m := n + 10 + 12 * i + 11) (by omega)
      case' cd =>
        have lt : at' < (codes b).length := by
          have : ¬ ((at' : Int) > (b.length : Int)) := fun q => z2 (decide_eq_true q)
          rw [lb] at this
          omega
        have hx : LowT W := by
          unfold LowT
          rw [hW]
          refine ⟨fun d hd => ?_, ?_, ?_⟩
          · rcases List.mem_append.mp hd with hd | hd
            · rcases List.mem_append.mp hd with hd | hd
              · exact hb.1 d (List.mem_of_mem_take hd)
              · rw [List.mem_singleton.mp hd]; omega
            · exact hb.1 d (List.mem_of_mem_drop hd)
          · rw [List.length_append, List.length_append]; show 1 ≤ _ + 1 + _; omega
          · rw [List.length_append, List.length_append, List.length_take, List.length_drop]; show _ + 1 + _ ≤ 8; omega
        have k09 := k08
        have k79 := k7.trans k8
        clear hW
        generalize W = x at hx ⊢
        generalize H8 = H9 at P8 k09 k79 ⊢
        have P9 := P8.mono (m := n + 10 + 12 * i + 11) (by omega)
      all_goals
        have hL9 := k79 _ _ hL nl
        have hB9 := k79 _ _ hB nbl
        have lx := len_codes x
        have lx8 := hx.2.2
        refine ⟨_, rfl, (by show 1 ≤ sizeLine; decide), fun l1 hl1 => ?_⟩
        have s1 : Same H9 (upd H9 l1 (.lst [V.str x])) := (Same.refl H9).put hl1
        have e1 : (upd H9 l1 (.lst [V.str x])) l1 = some (.lst [V.str x]) := upd_same
        generalize upd H9 l1 (.lst [V.str x]) = Ha at s1 e1 ⊢
        refine ⟨_, rfl, _, rfl, fun D1 hD1 => ?_⟩
        have eqc : ∀ ch : Nat, V.str (cutS x none (some 7) ++ ⟨#[ch]⟩) = V.str (txt ((codes x).take 7 ++ [ch])) := fun ch => congrArg V.str (codes_inj (by rw [codes_append, show (7 : Int) = ((7 : Nat) : Int) from rfl, cut_toA, codes_txt]; rfl))
        refine lc_it walk_str (fun j Hc => Hc D1 = some (.lst (((codes lettersS).take j).map fun ch => V.str (txt ((codes x).take 7 ++ [ch])))) ∧ Same Ha Hc) ?_ (fun _ _ _ _ => trivial) ?_ ?_
        · exact ⟨upd_same, (Same.refl Ha).put hD1⟩
        · rintro j y Hc _ hj ⟨g1, sm⟩ ⟨rfl, ch, hch, rfl⟩
          have hch' : (codes lettersS)[j]? = some ch := by
            unfold codes
            rw [Array.getElem?_toList]
            exact hch
          have et : (codes lettersS).take (j + 1) = (codes lettersS).take j ++ [ch] := by rw [List.take_add_one, hch']; rfl
          refine ⟨rfl, _, rfl, 7, rfl, _, rfl, (by rw [lx]; show _ ≤ 16777216; omega), _, rfl, _, _, rfl, rfl, ?_, _, g1, ?_, ?_, sm.put hD1⟩
          · rw [len_codes (cutS x none (some 7)), show (7 : Int) = ((7 : Nat) : Int) from rfl, cut_toA, List.length_take]
            show _ + 1 ≤ 16777216
            omega
          · rw [List.length_map, List.length_take, letters_len]
            show _ < 16777216
            omega
          · rw [upd_same, et, List.map_append, eqc]
            rfl
        rintro Hb ⟨g1, s2⟩
        have el : (lettersS).cps.size = (codes lettersS).length := by unfold codes; rw [Array.length_toList]
        rw [el, List.take_length] at g1
        refine ⟨l1, D1, _, _, rfl, rfl, s2 _ _ e1, g1, (by rw [List.length_map, letters_len]; show 1 + 26 ≤ 16777216; decide), fun so hso => ?_⟩
        have ec : [V.str x] ++ ((codes lettersS).map fun ch => V.str (txt ((codes x).take 7 ++ [ch]))) = (cands x).map V.str := by
          unfold cands
          rw [List.map_cons, List.map_map]
          rfl
        rw [ec]
        have s3 : Same Hb (upd Hb so (.lst ((cands x).map V.str))) := (Same.refl Hb).put hso
        have e3 : (upd Hb so (.lst ((cands x).map V.str))) so = some (.lst ((cands x).map V.str)) := upd_same
        generalize upd Hb so (.lst ((cands x).map V.str)) = Hd at s3 e3 ⊢
        have s93 := (s1.trans s2).trans s3
        have hLd := s93 _ _ hL9
        have hBd := s93 _ _ hB9
        have Pd := P9.same s93
        refine ⟨_, rfl, .inl ⟨rfl, _, SqL.of hLd⟩, _, rfl, so, rfl, ⟨_, SqL.of e3⟩, fun D2 hD2 => ?_⟩
        have nD2 : D2 ≠ l := (ne_of_none hLd hD2).symm
        refine lc_list (K := K) (a := so) (xs := (cands x).map V.str) (fun j Hc => Hc D2 = some (.lst ((((cands x).take j).filter fun y => !decide (y ∈ ws) && !decide (y ∈ barred)).map V.str)) ∧ Same Hd Hc) ?_ ?_ ?_ ?_
        · exact ⟨upd_same, (Same.refl Hd).put hD2⟩
        · rintro j Hc _ ⟨_, sd⟩
          exact SqL.of (sd _ _ e3)
        · rintro j y Hc hy ⟨g2, sd⟩
          rw [List.getElem?_map] at hy
          obtain ⟨y0, hy0, rfl⟩ : ∃ y0, (cands x)[j]? = some y0 ∧ y = .str y0 := by
            cases h : (cands x)[j]? with
            | none => rw [h] at hy; cases hy
            | some y0 => rw [h] at hy; exact ⟨y0, rfl, (Option.some.inj hy).symm⟩
          have et : (cands x).take (j + 1) = (cands x).take j ++ [y0] := by rw [List.take_add_one, hy0]; rfl
          have sz : ((((cands x).take j).filter fun y => !decide (y ∈ ws) && !decide (y ∈ barred)).map V.str).length < 16777216 := by
            rw [List.length_map]
            have h1 := List.length_filter_le (fun y => !decide (y ∈ ws) && !decide (y ∈ barred)) ((cands x).take j)
            have h2 : ((cands x).take j).length ≤ 27 := by
              rw [List.length_take]
              have : (cands x).length = 27 := by unfold cands; rw [List.length_cons, List.length_map, letters_len]
              omega
            omega
          refine ⟨rfl, _, rfl, _, rfl, l, _, rfl, .inl (SqL.of (sd _ _ hLd)), rfl, flat_strs _, _, rfl, ?_⟩
          rw [if_pos rfl, inV_strs]
          by_cases h1 : y0 ∈ ws
          · rw [decide_eq_true h1]
            refine iteF ⟨?_, sd⟩
            rw [et, List.filter_append, List.filter_cons_of_neg (by simp [h1]), List.filter_nil, List.append_nil]
            exact g2
          · rw [decide_eq_false h1]
            refine iteT ⟨_, rfl, _, rfl, bl, _, rfl, .inl (SqL.of (sd _ _ hBd)), rfl, flat_strs _, _, rfl, ?_⟩
            rw [if_pos rfl, inV_strs]
            by_cases h2 : y0 ∈ barred
            · rw [decide_eq_true h2]
              refine iteF ⟨?_, sd⟩
              rw [et, List.filter_append, List.filter_cons_of_neg (by simp [h2]), List.filter_nil, List.append_nil]
              exact g2
            · rw [decide_eq_false h2]
              refine iteT ⟨_, rfl, _, g2, sz, ?_, sd.put hD2⟩
              rw [upd_same, et, List.filter_append, List.filter_cons_of_pos (by simp [h1, h2]), List.filter_nil, List.map_append]
              rfl
        rintro He ⟨g2, sd⟩
        rw [List.length_map, List.take_length] at g2
        obtain ⟨y, hy, f1, f2⟩ := cand_free x (found := ws) (by omega)
        obtain ⟨y0, r0, er⟩ : ∃ y0 r0, (cands x).filter (fun y => !decide (y ∈ ws) && !decide (y ∈ barred)) = y0 :: r0 := by
          cases h : (cands x).filter (fun y => !decide (y ∈ ws) && !decide (y ∈ barred)) with
          | nil =>
            rw [List.filter_eq_nil_iff] at h
            exact absurd (by simp [f1, f2]) (h y hy)
          | cons y0 r0 => exact ⟨y0, r0, rfl⟩
        have hm0 : y0 ∈ (cands x).filter (fun y => !decide (y ∈ ws) && !decide (y ∈ barred)) := by rw [er]; exact List.mem_cons_self
        obtain ⟨hc0, hq0⟩ := List.mem_filter.mp hm0
        have hq0 : y0 ∉ ws ∧ y0 ∉ barred := by simpa using hq0
        rw [er] at g2
        refine ⟨D2, _, _, _, rfl, rfl, SqL.of g2, atI_nat (j := 0) rfl, l, _, _, rfl, rfl, sd _ _ hLd, (by rw [List.length_map, wsl]; show _ < 16777216; omega), ?_⟩
        refine ⟨_, _, _, _, _, _, _, ws ++ [y0], rfl, words_snoc hws (cand_low hx hc0) hq0.1 hq0.2, by rw [List.length_append, wsl]; rfl, by rw [upd_same, List.map_append]; rfl, ?_, fun b' o' hb' nb' => ?_, ((Pd.same sd).upd' nl.symm ncl).mono (by omega)⟩
        · rw [upd_ne nbl2]
          exact sd _ _ hBd
        · rw [upd_ne (ne_of_none hb' hlH)]
          exact (k09.trans (s93.trans sd).keep) b' o' hb' nb'
    · rintro σ Hc ⟨v6, v7, v8, v9, v10, v11, v12, ws, rfl, hws, wsl, hL, hB, kc, Pc⟩
      exact ⟨_, rfl, k l ws Hc hws wsl hL nl kc (Pc.mono (by omega))⟩
end
end K2
end
section
set_option Elab.async false
set_option maxRecDepth 100000
set_option linter.all false
/-! sets of acts: their making -/
namespace K2
open PySem L2 LfX PySem.Spec PyProof.Rows
abbrev sIn : Stmt := inClass (top 11) 0
abbrev nIn : List Str := ["self", "rows", "k", "row"]
/-- an act of right words -/
structure ActW (a : LfX.Act) : Prop where
  cb : VW a.cb
  hd : ∀ x, a.hd = some x → VW x
  out : VW a.out ∨ a.out = "returns"
theorem low_strOk {x : Str} (h : Low (codes x)) : PyData.strOk x = true := by
  unfold PyData.strOk
  rw [Array.all_eq_true']
  intro c hc
  have := h c (by unfold codes; exact Array.mem_toList_iff.mpr hc)
  exact decide_eq_true (by omega)
theorem vw_len {x : Str} (h : VW x) : x.length ≤ 8 := by rw [len_codes]; exact h.le
theorem vw_pos {x : Str} (h : VW x) : 0 < x.length := by
  rw [len_codes]
  exact List.length_pos_iff.mpr h.ne
theorem vw_ne {x : Str} (h : VW x) : x ≠ Str.empty := fun e => by
  have := vw_pos h
  rw [e] at this
  exact absurd this (by decide)
theorem ActW.ok {a : LfX.Act} (h : ActW a) : ActOk a := by
  obtain ⟨cb, hd, out⟩ := a
  refine ActOk.mk' (low_strOk h.cb.low) (fun x e => low_strOk (h.hd x e).low) ?_
  rcases h.out with h | h
  · exact low_strOk h.low
  · have h : out = "returns" := h
    rw [h]
    decide +kernel
theorem ActW.isA {a : LfX.Act} (h : ActW a) : isActB a = true := by
  obtain ⟨cb, hd, out⟩ := a
  unfold isActB
  have h1 := vw_isW h.cb
  have h3 : (isW out || decide (out = "returns")) = true := by
    rcases h.out with q | q
    · rw [vw_isW q]; rfl
    · have q : out = "returns" := q
      simp [q]
  have h1 : isW cb = true := h1
  cases hd with
  | none => simp [h1, h3]
  | some x => simp [h1, h3, vw_isW (h.hd x rfl)]
theorem ActW.sz {a : LfX.Act} (h : ActW a) : ActSz a := by
  have e : (8 : Nat) ≤ sizeLine := by decide
  refine ⟨Nat.le_trans (vw_len h.cb) e, fun x hx => Nat.le_trans (vw_len (h.hd x hx)) e, ?_⟩
  rcases h.out with q | q
  · exact Nat.le_trans (vw_len q) e
  · rw [q]; decide +kernel
theorem ActW.hdw {a : LfX.Act} (h : ActW a) : HdW a := fun x hx => ⟨vw_pos (h.hd x hx), Nat.le_trans (vw_len (h.hd x hx)) (by decide)⟩
theorem ActW.hdok {a : LfX.Act} (h : ActW a) : HdOk a := fun e => vw_ne (h.hd _ e) rfl
theorem ActW.one {a : LfX.Act} (h : ActW a) : a.out ≠ Str.empty := by
  rcases h.out with q | q
  · exact vw_ne q
  · rw [q]; decide +kernel
abbrev AllW (as : List LfX.Act) : Prop := ∀ a ∈ as, ActW a
/-- the objects -/
def fldA (d r : Addr) : List (Str × V) := putF "rows" (.ref r) (putF "_known" (.ref d) [])
theorem nkr_ : ¬ (("_known" : Str) = "rows") := by decide +kernel
theorem fldA_known (d r : Addr) : (fldA d r).lookup ("_known" : Str) = some (.ref d) := by
  unfold fldA
  rw [lookup_putF, if_neg nkr_, lookup_putF, if_pos rfl]
theorem fldA_rows (d r : Addr) : (fldA d r).lookup ("rows" : Str) = some (.ref r) := by
  unfold fldA
  rw [lookup_putF, if_pos rfl]
theorem fldA_no (d r : Addr) {f : Str} (h1 : ¬ f = "rows") (h2 : ¬ f = "_known") : (fldA d r).lookup f = none := by
  unfold fldA
  rw [lookup_putF, if_neg h1, lookup_putF, if_neg h2]
  rfl
structure TxA (K : PySem.W.Frag) (mg : Str → Option Value) (C : Addr) : Prop where
  cl : Cls K C
  nR : NoAttr K C "rows"
  nK : NoAttr K C "_known"
  mgC : mg "Acts" = some (.ref C)
/-- a set of acts stands at p -/
def AcW (P : Program) (w : World) (C : Addr) (H : Hp) (p : Addr) (as : List LfX.Act) : Prop := ∃ (dx d r : Addr) (xs : List LEnt) (qs : List Addr), H p = some (.ins C dx (fldA d r)) ∧ LDict P w H d xs ∧ (∀ a, actL a ∈ xs.map (·.1) ↔ a ∈ as) ∧ H r = some (.tup (qs.map V.ref)) ∧ ActsAt H qs as
theorem AcW.same {P : Program} {w : World} {C p : Addr} {H H' : Hp} {as : List LfX.Act} (h : AcW P w C H p as) (s : Same H H') : AcW P w C H' p as := by
  obtain ⟨dx, d, r, xs, qs, h1, h2, h3, h4, h5⟩ := h
  exact ⟨dx, d, r, xs, qs, s _ _ h1, h2.mono s, h3, s _ _ h4, h5.mono fun b xs e => s b _ e⟩
theorem AcW.ins {P : Program} {w : World} {C p : Addr} {H : Hp} {as : List LfX.Act} (h : AcW P w C H p as) : ∃ dx fs, H p = some (.ins C dx fs) ∧ ∀ m : Str, ¬ m = "rows" → ¬ m = "_known" → fs.lookup m = none := by
  obtain ⟨dx, d, r, xs, qs, h1, _⟩ := h
  exact ⟨dx, _, h1, fun m a b => fldA_no d r a b⟩
def spIn (P : Program) (w : World) (C : Addr) : Sp := fun vs H Q _ => ∃ (p dx rt : Addr) (ts : List Addr) (as : List LfX.Act), vs = [.ref p, .ref rt] ∧ H p = some (.ins C dx []) ∧ H rt = some (.tup (ts.map V.ref)) ∧ ActsAt H ts as ∧ AllW as ∧ as.length ≤ 1000 ∧
  ∀ (H' : Hp), AcW P w C H' p (lawSort as) → (∀ b o, H b = some o → b ≠ p → H' b = some o) → Q .non H'
theorem in_bind (kV doc pm : Value) (an : Option Addr) (cdv ct : Value) : ∀ us rest : List Value, us.length = ["self"].length → bindArgs (PySem.W.fnOf "__init__" "Acts.__init__" (defArgs sIn) (defBody sIn) (defScope sIn) .none kV doc pm an cdv ct) ⟨us ++ rest, []⟩ = (newTuple rest >>= fun t => pure (([("self" : Str)]).zip us ++ [(("rows" : Str), t)])) :=
  StX.bind_star1 (B := fun l => bindArgs (PySem.W.fnOf "__init__" "Acts.__init__" (defArgs sIn) (defBody sIn) (defScope sIn) .none kV doc pm an cdv ct) ⟨l, []⟩) (fun a => rfl) (fun a r rs => rfl)
/-- the keys of the dict as acts, each once -/
def Keys (xs : List LEnt) (bs : List LfX.Act) : Prop := xs.map (·.1) = bs.map actL ∧ bs.Nodup
theorem Keys.mem {xs : List LEnt} {bs : List LfX.Act} (h : Keys xs bs) (a : LfX.Act) : actL a ∈ xs.map (·.1) ↔ a ∈ bs := by
  rw [h.1, List.mem_map]
  exact ⟨fun ⟨b, hb, e⟩ => actL_inj e ▸ hb, fun hb => ⟨a, hb, rfl⟩⟩
theorem Keys.acts {P : Program} {w : World} {H : Hp} {d : Addr} {xs : List LEnt} {bs : List LfX.Act} (h : Keys xs bs) (D : LDict P w H d xs) : ActsAt H (xs.map (·.2.1)) bs := by
  refine ⟨by rw [List.length_map]; have := congrArg List.length h.1; simpa using this, fun j q a h1 h2 => ?_⟩
  rw [List.getElem?_map] at h1
  cases hx : xs[j]? with
  | none => rw [hx] at h1; cases h1
  | some x =>
    rw [hx] at h1
    cases h1
    have e : (xs.map (·.1))[j]? = (bs.map actL)[j]? := by rw [h.1]
    rw [List.getElem?_map, List.getElem?_map, hx, h2] at e
    have e : x.1 = actL a := Option.some.inj e
    have := D.keys x (List.mem_of_getElem? hx)
    rw [e, act_leaves] at this
    exact this
theorem ldict_upd {P : Program} {w : World} {H : Hp} {d p C dx : Addr} {xs : List LEnt} {fs : List (Str × V)} {o : HO} (D : LDict P w H d xs) (hp : H p = some (.ins C dx fs)) : LDict P w (upd H p o) d xs := by
  have nt : ∀ b ys, H b = some (.tup ys) → b ≠ p := fun b ys e => ne_of e hp (by intro z; cases z)
  exact ⟨by rw [upd_ne (ne_of D.at_ hp (by unfold LfO; intro z; cases z))]; exact D.at_, fun x hx => by rw [upd_ne (nt _ _ (D.keys x hx))]; exact D.keys x hx, D.sys, D.le⟩
theorem lawSort_mem (as : List LfX.Act) (a : LfX.Act) : a ∈ lawSort as ↔ a ∈ as :=
  ((lawSort_ok as [] .nil List.nodup_nil).2.2 a).trans ⟨fun q => q.elim (fun z => absurd z (by simp)) id, .inr⟩
theorem lawSort_len (as : List LfX.Act) : (lawSort as).length ≤ as.length :=
  ((lawSort_ok as [] .nil List.nodup_nil).2.1).length_le_of_subset fun a ha => (lawSort_mem as a).mp ha
section
variable {P : Program} {w : World} {K : PySem.W.Frag} {mg : Str → Option Value} {base : Heap}
theorem scIn : FnScope nIn ["self", "rows"] (defScope sIn) := ⟨rfl, rfl, rfl, by decide +kernel, rfl, by decide +kernel, by decide +kernel⟩
theorem ok_in {f C fIA fAO : Addr} {fd fdIA fdAO : FuncData} (F : Fun K "__init__" "Acts.__init__" sIn f fd) (Y : TxA K mg C) (T : Bi mg) (mSo : mg "sorted" = none) (IA : Df K mg "is_act" sIA fIA fdIA ["x"]) (GIA : FnOk P w K mg base CX0 2 fIA fdIA ["x"] spIA)
    (AO : Df K mg "act_order" sAO fAO fdAO ["act"]) (GAO : FnOk P w K mg base CX0 1 fAO fdAO ["act"] spAO) :
    FnR P w K mg base CX0 4 f (fun vs H Q E => ∃ ws rest, vs = ws ++ rest ∧ ws.length = 1 ∧ rest.length ≤ sizeLine ∧ ∀ p, H p = none → spIn P w C (ws ++ [V.ref p]) (upd H p (.tup rest)) Q E) := by
  obtain ⟨oc, od, kV, doc, pm, an, cdv, ct, osl, rfl, lk, hcd⟩ := F.ex
  refine StX.fn_star (ps := ["self"]) (pv := "rows") lk hcd scIn StX.cxUp_none (in_bind kV doc pm an cdv ct) fun A outer s H vs Q E hr h => ?_
  obtain ⟨p, dx, rt, ts, as, rfl, hp, ht, R, aw, h1000, k⟩ := h
  have hr3 : Room 3 _ := hr
  have hr2 : Room 2 _ := hr.mono (by decide)
  have hu := hu_of hr
  have hu0 := Nat.lt_of_succ_lt hu
  suffices hs : ∃ t, PSs (cxOf CX0 P w K mg base nIn "Acts.__init__" (defScope sIn) f cdv A outer s H E).nox (defBody sIn) t ∧ t { nx := fun _ H' => Q .non H', rt := Q } (start nIn [V.ref p, V.ref rt]) H by
    obtain ⟨t, h1, h2⟩ := hs
    exact ⟨t, h1.nox, h2⟩
  refine ⟨_, (pss_cons (ps_for PassesOwn.never rfl (pi_enumT (by rfl) T.enumerate (pa_cons (pv 1) pa_nil)) (pg_tup rfl (pgs_cons (pg_name (i := 2) scIn.nd rfl (Or.inl rfl)) (pgs_cons (pg_name (i := 3) scIn.nd rfl (Or.inl rfl)) pgs_nil)))
(pss_one (ps_if (pt_not (pt_val (pe_call GIA hr2 (by rfl) IA.m IA.F.kp IA.b .nil pass0 (pa_cons (pv 3) pa_nil))))
        (pss_one (ps_never))
        pss_nil)))
      (pss_cons (ps_fld (pv 0) (pe_dcL (own := [("row", 3)]) (g := gName 3) (tt := tYes) hu0 rfl scIn.nd (pi_tup (pv 1)) (blkOk_by (N := nIn) (sc := defScope sIn) (by decide +kernel)) (fun _ _ _ _ _ => pg_name (i := 3) scIn.nd rfl (Or.inl rfl)) (fun _ _ _ _ _ => pts_nil) (fun _ _ _ _ _ => pv 3) (fun _ _ _ _ _ => pe_bl)) rfl)
      (pss_one (ps_fld (pv 0) (pe_callTy call_tuple_of (by rfl) T.tuple (by decide +kernel) (pa_cons (pe_callBK (cr_sortedF GAO hr3 AO.b) (by rfl) mSo (by decide +kernel) (pa_cons (pe_callTy (call_list_L rfl) (by rfl) T.list (by decide +kernel) (pa_cons (pe_fld (pv 0) rfl) pa_nil)) pa_nil) (pk_cons (pe_glob (v := .ref fAO) rfl AO.m rfl) pk_nil)) pa_nil)) rfl)))), ?_⟩
  have tl : (ts.map V.ref).length = as.length := by rw [List.length_map, R.1]
  refine ⟨_, rfl, rt, _, rfl, ht, for_it (walk_enumT rt (ts.map V.ref)) (fun i σ Hc => ∃ (v3 v4 : Option V), σ = [some (.ref p), some (.ref rt), v3, v4] ∧ Same H Hc) ?_ ?_ ?_ ?_⟩
  · exact ⟨_, _, rfl, Same.refl H⟩
  · rintro i σ Hc _ ⟨v3, v4, rfl, sm⟩
    exact sm rt _ ht
  · rintro i y σ Hc Hy hi ⟨v3, v4, rfl, sm⟩ ⟨T9, x, rfl, hT9, rfl, hx⟩
    rw [tl] at hi
    have hti : ts[i]? = some (ts[i]'(by rw [R.1]; exact hi)) := List.getElem?_eq_getElem _
    rw [List.getElem?_map, hti] at hx
    generalize ts[i]'(by rw [R.1]; exact hi) = t at hti hx
    cases hx
    have hai : as[i]? = some as[i] := List.getElem?_eq_getElem hi
    have hta := sm _ _ (R.2 i t _ hti hai)
    have wa := aw _ (List.mem_of_getElem? hai)
    generalize as[i] = a at hai hta wa
    have s9 : Same Hc (upd Hc T9 (.tup [V.int (i : Nat), V.ref t])) := (Same.refl Hc).put hT9
    refine ⟨T9, _, rfl, SqT.of upd_same, rfl, _, _, rfl, _, _, rfl, rfl, ?_⟩
    refine ⟨_, rfl, t, a, rfl, s9 _ _ hta, wa.sz, ?_⟩
    rw [wa.isA]
    refine ⟨true, rfl, ?_⟩
    refine iteF ?_
    exact ⟨_, _, rfl, sm.trans s9⟩
  · rintro σ Hc ⟨v3, v4, rfl, sm⟩
    have hpc := sm p _ hp
    refine ⟨_, rfl, rt, rfl, ⟨_, SqT.of (sm rt _ ht)⟩, fun D hD hsys => ?_⟩
    have hDp : D ≠ p := (ne_of_none hpc hD).symm
    refine dcL_tup (ys := ts.map V.ref) (Pv := fun i Hc' => ∃ (xs : List LEnt) (bs : List LfX.Act), LDict P w Hc' D xs ∧ Keys xs bs ∧ (∀ y, y ∈ bs ↔ y ∈ as.take i) ∧ bs.length ≤ i ∧ Same Hc Hc') ?_ ?_ ?_ ?_
    · refine ⟨[], [], ⟨upd_same, fun x hx => by simp at hx, hsys, Nat.zero_le _⟩, ⟨rfl, List.nodup_nil⟩, fun y => by simp, Nat.zero_le _, (Same.refl Hc).put hD⟩
    · rintro i Hc' _ ⟨xs, bs, _, _, _, _, s2⟩
      exact SqT.of (s2 _ _ (sm rt _ ht))
    · rintro i x Hc' hx ⟨xs, bs, LD, KB, hm, hbl, s2⟩
      have hi : i < as.length := by
        have := (List.getElem?_eq_some_iff.mp hx).1
        rw [tl] at this
        exact this
      have hti : ts[i]? = some (ts[i]'(by rw [R.1]; exact hi)) := List.getElem?_eq_getElem _
      rw [List.getElem?_map, hti] at hx
      generalize ts[i]'(by rw [R.1]; exact hi) = t at hti hx
      cases hx
      have hai : as[i]? = some as[i] := List.getElem?_eq_getElem hi
      have hta := s2 _ _ (sm _ _ (R.2 i t _ hti hai))
      have et : as.take (i + 1) = as.take i ++ [as[i]] := by rw [List.take_add_one, hai]; rfl
      generalize as[i] = a at hai hta et
      have xl : xs.length = bs.length := by have := congrArg List.length KB.1; simpa using this
      have hz : xs.length < sizeLine := by rw [xl]; show _ < 16777216; omega
      rw [← act_leaves] at hta
      refine ⟨rfl, ?_⟩
      refine ⟨_, rfl, t, actL a, xs, rfl, hta, LD, hz, fun r hr0 => ?_⟩
      by_cases hin : a ∈ bs
      · obtain ⟨e1, LD2⟩ := LD.again (q := t) (r := r) ((KB.mem a).mpr hin)
        refine ⟨_, bs, LD2, ⟨e1.trans KB.1, KB.2⟩, fun y => ?_, by omega, s2.put hD⟩
        rw [et, List.mem_append, List.mem_singleton, ← hm y]
        exact ⟨.inl, fun q => q.elim id fun e => e ▸ hin⟩
      · obtain ⟨e1, LD2⟩ := LD.stored (q := t) (r := r) hta hz fun q => hin ((KB.mem a).mp q)
        rw [e1]
        refine ⟨_, bs ++ [a], LD2, ⟨by rw [List.map_append, List.map_append, KB.1]; rfl, List.nodup_append.mpr ⟨KB.2, by simp, fun x hx y hy e => ?_⟩⟩, fun y => ?_, by rw [List.length_append]; show _ + 1 ≤ _; omega, s2.put hD⟩
        · rw [List.mem_singleton.mp hy] at e
          exact hin (e ▸ hx)
        · rw [et, List.mem_append, List.mem_append, ← hm y]
    rintro H2 ⟨xs, bs, LD, KB, hm, hbl, s2⟩
    rw [tl, List.take_length] at hm
    rw [tl] at hbl
    refine ⟨_, rfl, p, C, dx, _, rfl, s2 _ _ hpc, Y.cl, Y.nK, (by show 0 < 1000; decide), ?_⟩
    have LD3 := ldict_upd (o := .ins C dx (putF "_known" (.ref D) [])) LD (s2 _ _ hpc)
    have hp3 : (upd H2 p (.ins C dx (putF "_known" (.ref D) []))) p = some (.ins C dx (putF "_known" (.ref D) [])) := upd_same
    have k3 : ∀ b o, H b = some o → b ≠ p → (upd H2 p (.ins C dx (putF "_known" (.ref D) []))) b = some o := fun b o e n => by rw [upd_ne n]; exact s2 _ _ (sm _ _ e)
    generalize upd H2 p (.ins C dx (putF "_known" (.ref D) [])) = H3 at LD3 hp3 k3 ⊢
    have xl : xs.length = bs.length := by have := congrArg List.length KB.1; simpa using this
    have AT := KB.acts LD3
    have wb : AllW bs := fun a ha => aw a ((hm a).mp ha)
    have el : (xs.map fun x => V.ref x.2.1) = (xs.map (·.2.1)).map V.ref := by rw [List.map_map]; rfl
    refine ⟨_, rfl, p, C, dx, _, _, rfl, hp3, Y.cl, Y.nK, by rw [lookup_putF, if_pos rfl], D, xs, rfl, LD3, fun l hl => ?_⟩
    rw [el]
    have s4 : Same H3 (upd H3 l (.lst ((xs.map (·.2.1)).map V.ref))) := (Same.refl H3).put hl
    have e4 : (upd H3 l (.lst ((xs.map (·.2.1)).map V.ref))) l = some (.lst ((xs.map (·.2.1)).map V.ref)) := upd_same
    generalize upd H3 l (.lst ((xs.map (·.2.1)).map V.ref)) = H4 at s4 e4 ⊢
    have AT4 := AT.mono fun b ys e => s4 _ _ e
    generalize xs.map (·.2.1) = qs at AT4 e4 ⊢
    have ql : qs.length = bs.length := AT4.1
    refine ⟨l, qs.map V.ref, bs.map actKey, rfl, rfl, SqL.of e4, by rw [List.length_map, List.length_map, ql], acts_alike bs, acts_sortable bs, acts_depth bs, fun i v d hv hd H5 s5 => ?_, fun pl H5 s5 npl hpl => ?_⟩
    · rw [List.getElem?_map] at hv hd
      cases hq : qs[i]? with
      | none => rw [hq] at hv; cases hv
      | some q =>
        cases hb : bs[i]? with
        | none => rw [hb] at hd; cases hd
        | some a =>
          rw [hq] at hv
          rw [hb] at hd
          cases hv
          cases hd
          have hqa := s5 _ _ (AT4.2 i q a hq hb)
          have wa := wb a (List.mem_of_getElem? hb)
          refine ⟨q, a, rfl, hqa, wa.hdw, fun r hr0 => ⟨fun b o e => by rw [upd_ne (ne_of_none e hr0)]; exact e, ⟨r, rfl⟩, fun H6 t6 => ?_⟩⟩
          refine .tup (.inl (.inl (t6 _ _ upd_same))) (.cons (.str _) (.cons (.str _) (.cons ?_ (.cons (.str _) .nil))))
          exact .bl _
    · obtain ⟨qs', eq', AT5⟩ := sorted_acts (AT4.mono fun b ys e => s5 b _ e)
      rw [eq'] at hpl
      refine ⟨pl, _, rfl, .inl ⟨SqL.of hpl, fun r hr0 => ?_⟩⟩
      have hp5 := s5 _ _ (s4 _ _ hp3)
      have nr : p ≠ r := ne_of_none hp5 hr0
      refine ⟨_, rfl, p, C, dx, _, rfl, by rw [upd_ne nr]; exact hp5, Y.cl, Y.nR, (by show 1 < 1000; decide), ?_⟩
      have LD5 := (LD3.mono s4).mono s5
      have sr : Same H5 (upd H5 r (.tup (qs'.map V.ref))) := (Same.refl H5).put hr0
      have hp6 := sr _ _ hp5
      have LD6 := ldict_upd (o := .ins C dx (fldA D r)) (LD5.mono sr) hp6
      have nt : ∀ b ys, (upd H5 r (.tup (qs'.map V.ref))) b = some (.tup ys) → (upd (upd H5 r (.tup (qs'.map V.ref))) p (.ins C dx (fldA D r))) b = some (.tup ys) := fun b ys e => by rw [upd_ne (ne_of e hp6 (by intro z; cases z))]; exact e
      refine k _ ⟨dx, D, r, xs, qs', upd_same, LD6, fun a => ?_, nt _ _ upd_same, ?_⟩ fun b o e n => ?_
      · rw [KB.mem a, hm a]
        exact (lawSort_mem as a).symm
      · rw [← lawSort_eq (fun a ha => (wb a ha).hdok) KB.2 hm]
        exact AT5.mono fun b ys e => nt _ _ (sr _ _ e)
      · rw [upd_ne n]
        exact sr _ _ (s5 _ _ (s4 _ _ (k3 b o e n)))
end
end K2
end
section
set_option Elab.async false
set_option maxRecDepth 100000
set_option linter.all false
/-! sets of acts: what they can do -/
namespace K2
open PySem L2 LfX PySem.Spec PyProof.Rows
abbrev sMd : Stmt := inClass (top 11) 1
abbrev sLn : Stmt := inClass (top 11) 2
abbrev sCo : Stmt := inClass (top 11) 3
abbrev sOr : Stmt := inClass (top 11) 5
abbrev sAn : Stmt := inClass (top 11) 6
abbrev sSu : Stmt := inClass (top 11) 7
abbrev sXo : Stmt := inClass (top 11) 8
abbrev sWi : Stmt := inClass (top 11) 9
abbrev nMd : List Str := ["cls", "rows"]
abbrev nLn : List Str := ["self"]
abbrev nCo : List Str := ["self", "x"]
abbrev nOr : List Str := ["self", "other", "rows"]
abbrev nAn : List Str := ["self", "other", "rows", "row"]
abbrev nSu : List Str := ["self", "other", "rows", "row"]
abbrev nXo : List Str := ["self", "other", "one", "two", "rows", "row"]
abbrev nWi : List Str := ["self", "other", "row"]
/-- acts picked from a list or a tuple by a test that changes nothing -/
def PickT (H1 : Hp) (as : List LfX.Act) (p : LfX.Act → Bool) (g : TG) (tt : TT) (te : TE) (vs : List Nat) (σ : L2.St) : Prop :=
  ∀ (q : Addr) (b : LfX.Act) (Hc : Hp) (Yes : V → Hp → Prop) (No : Hp → Prop), b ∈ as → Hc q = some (.tup (actVs b)) → Same H1 Hc → (p b = true → ∀ H', Same Hc H' → Yes (.ref q) H') → (p b = false → ∀ H', Same Hc H' → No H') →
    g (.ref q) (wipe σ vs) Hc fun σ2 H2 => wipe σ2 vs = wipe σ vs ∧ tt σ2 H2 fun c H3 => if c = true then te σ2 H3 Yes else No H3
theorem acts_snoc {H : Hp} {qs : List Addr} {as : List LfX.Act} {q : Addr} {a : LfX.Act} (h : ActsAt H qs as) (hq : H q = some (.tup (actVs a))) : ActsAt H (qs ++ [q]) (as ++ [a]) := by
  refine ⟨by simp [h.1], fun j q' a' h1 h2 => ?_⟩
  by_cases hj : j < qs.length
  · rw [List.getElem?_append_left hj] at h1
    rw [List.getElem?_append_left (by rw [← h.1]; exact hj)] at h2
    exact h.2 j q' a' h1 h2
  · rw [List.getElem?_append_right (by omega)] at h1
    rw [List.getElem?_append_right (by have := h.1; omega), ← h.1] at h2
    have j0 : j - qs.length = 0 := by
      have := (List.getElem?_eq_some_iff.mp h1).1
      rw [List.length_singleton] at this
      omega
    rw [j0] at h1 h2
    cases h1
    cases h2
    exact hq
theorem acts_app {H : Hp} {qs qs2 : List Addr} {as as2 : List LfX.Act} (h : ActsAt H qs as) (h2 : ActsAt H qs2 as2) : ActsAt H (qs ++ qs2) (as ++ as2) := by
  refine ⟨by simp [h.1, h2.1], fun j q a e1 e2 => ?_⟩
  by_cases hj : j < qs.length
  · rw [List.getElem?_append_left hj] at e1
    rw [List.getElem?_append_left (by rw [← h.1]; exact hj)] at e2
    exact h.2 j q a e1 e2
  · rw [List.getElem?_append_right (by omega)] at e1
    rw [List.getElem?_append_right (by have := h.1; omega), ← h.1] at e2
    exact h2.2 _ q a e1 e2
theorem acts_nth {H : Hp} {qs : List Addr} {as : List LfX.Act} {i : Nat} {x : V} (h : ActsAt H qs as) (hx : (qs.map V.ref)[i]? = some x) : ∃ q a, x = .ref q ∧ as[i]? = some a ∧ qs[i]? = some q ∧ H q = some (.tup (actVs a)) ∧ i < as.length := by
  rw [List.getElem?_map] at hx
  cases hq : qs[i]? with
  | none => rw [hq] at hx; cases hx
  | some q =>
    rw [hq] at hx
    have hi : i < as.length := by have := (List.getElem?_eq_some_iff.mp hq).1; rw [← h.1]; exact this
    exact ⟨q, as[i], (Option.some.inj hx).symm, List.getElem?_eq_getElem hi, rfl, h.2 i q _ hq (List.getElem?_eq_getElem hi), hi⟩
/-- acts stand in a fresh list -/
def LstA (H1 : Hp) (D : Addr) (as : List LfX.Act) (H : Hp) : Prop := ∃ qs : List Addr, H D = some (.lst (qs.map V.ref)) ∧ ActsAt H qs as ∧ Same H1 H
section
variable {K : PySem.W.Frag} {a D : Addr} {qs : List Addr} {as : List LfX.Act} {p : LfX.Act → Bool} {g : TG} {tt : TT} {te : TE} {vs : List Nat} {σ : L2.St} {H1 : Hp} {Qd : Hp → Prop}
theorem pick_step (hA : ActsAt H1 qs as) (hD : H1 D = none) (hn : as.length ≤ 1000) (st : PickT H1 as p g tt te vs σ) : ∀ i x H, (qs.map V.ref)[i]? = some x → LstA H1 D ((as.take i).filter p) H → g x (wipe σ vs) H fun σ2 H2 => wipe σ2 vs = wipe σ vs ∧ tt σ2 H2 fun b H3 =>
      if b = true then te σ2 H3 fun y H4 => ∃ acc, H4 D = some (.lst acc) ∧ acc.length < sizeLine ∧ LstA H1 D ((as.take (i + 1)).filter p) (upd H4 D (.lst (acc ++ [y]))) else LstA H1 D ((as.take (i + 1)).filter p) H3 := by
  rintro i x H hx ⟨qs', hD', A', s⟩
  obtain ⟨q, b, rfl, hb, hq, hqb, hi⟩ := acts_nth hA hx
  have et : as.take (i + 1) = as.take i ++ [b] := by rw [List.take_add_one, hb]; rfl
  have hl : qs'.length ≤ 1000 := by
    rw [A'.1]
    have := List.length_filter_le p (as.take i)
    rw [List.length_take] at this
    omega
  refine st q b H _ _ (List.mem_of_getElem? hb) (s _ _ hqb) s (fun hp H' s' => ?_) (fun hp H' s' => ?_)
  · refine ⟨_, s' _ _ hD', by rw [List.length_map]; show _ < 16777216; omega, qs' ++ [q], by rw [upd_same, List.map_append]; rfl, ?_, (s.trans s').put hD⟩
    rw [et, List.filter_append, List.filter_cons_of_pos hp]
    refine ActsAt.mono (H := H') (acts_snoc (A'.mono fun b xs e => s' _ _ e) (s' _ _ (s _ _ hqb))) fun b xs e => ?_
    rw [upd_ne (ne_of e (s' _ _ hD') (by intro z; cases z))]
    exact e
  · rw [et, List.filter_append, List.filter_cons_of_neg (by rw [hp]; exact Bool.false_ne_true), List.filter_nil, List.append_nil]
    exact ⟨qs', s' _ _ hD', A'.mono fun b xs e => s' _ _ e, s.trans s'⟩
theorem pick_tup (ha : H1 a = some (.tup (qs.map V.ref))) (hA : ActsAt H1 qs as) (hD : H1 D = none) (hn : as.length ≤ 1000) (st : PickT H1 as p g tt te vs σ) (hd : ∀ H, LstA H1 D (as.filter p) H → Qd H) :
    ∃ W : Nat → Nat → Hp → Prop, (∃ m, W 0 m (upd H1 D (.lst []))) ∧ ∀ i m H, W i m H →
      ((Itt K a).stop i H ∧ Qd H) ∨ ((Itt K a).go i H ∧ ∃ Nx : Hp → Prop, (∀ H', Nx H' → ∃ m', m' < m ∧ W (i + 1) m' H') ∧ ∀ x H', (Itt K a).yld i H x H' → g x (wipe σ vs) H' fun σ2 H2 => wipe σ2 vs = wipe σ vs ∧ tt σ2 H2 fun b H3 =>
        if b = true then te σ2 H3 fun y H4 => ∃ acc, H4 D = some (.lst acc) ∧ acc.length < sizeLine ∧ Nx (upd H4 D (.lst (acc ++ [y]))) else Nx H3) := by
  refine lc_tup (K := K) (a := a) (xs := qs.map V.ref) (fun i Hc => LstA H1 D ((as.take i).filter p) Hc) ?_ (fun i Hc _ h => ?_) (pick_step hA hD hn st) (fun Hc h => hd Hc ?_)
  · exact ⟨[], upd_same, ⟨rfl, fun j q a h => by simp at h⟩, (Same.refl _).put hD⟩
  · obtain ⟨_, _, _, s⟩ := h
    exact SqT.of (s _ _ ha)
  · rw [List.length_map, hA.1, List.take_length] at h
    exact h
theorem pick_lst (ha : H1 a = some (.lst (qs.map V.ref))) (hA : ActsAt H1 qs as) (hD : H1 D = none) (hn : as.length ≤ 1000) (st : PickT H1 as p g tt te vs σ) (hd : ∀ H, LstA H1 D (as.filter p) H → Qd H) :
    ∃ W : Nat → Nat → Hp → Prop, (∃ m, W 0 m (upd H1 D (.lst []))) ∧ ∀ i m H, W i m H →
      ((Itl K a).stop i H ∧ Qd H) ∨ ((Itl K a).go i H ∧ ∃ Nx : Hp → Prop, (∀ H', Nx H' → ∃ m', m' < m ∧ W (i + 1) m' H') ∧ ∀ x H', (Itl K a).yld i H x H' → g x (wipe σ vs) H' fun σ2 H2 => wipe σ2 vs = wipe σ vs ∧ tt σ2 H2 fun b H3 =>
        if b = true then te σ2 H3 fun y H4 => ∃ acc, H4 D = some (.lst acc) ∧ acc.length < sizeLine ∧ Nx (upd H4 D (.lst (acc ++ [y]))) else Nx H3) := by
  refine lc_list (K := K) (a := a) (xs := qs.map V.ref) (fun i Hc => LstA H1 D ((as.take i).filter p) Hc) ?_ (fun i Hc _ h => ?_) (pick_step hA hD hn st) (fun Hc h => hd Hc ?_)
  · exact ⟨[], upd_same, ⟨rfl, fun j q a h => by simp at h⟩, (Same.refl _).put hD⟩
  · obtain ⟨_, _, _, s⟩ := h
    exact SqL.of (s _ _ ha)
  · rw [List.length_map, hA.1, List.take_length] at h
    exact h
end
def rInO (C : Addr) (sp : Sp) : R2 := fun x y H Q => ∃ a dx fs, y = .ref a ∧ H a = some (.ins C dx fs) ∧ sp [.ref a, x] H (fun v H' => ∃ b, v = .bl b ∧ Q (.bl b) H') (fun _ _ _ => False)
def rNinO (C : Addr) (sp : Sp) : R2 := fun x y H Q => ∃ a dx fs, y = .ref a ∧ H a = some (.ins C dx fs) ∧ sp [.ref a, x] H (fun v H' => ∃ b, v = .bl b ∧ Q (.bl (!b)) H') (fun _ _ _ => False)
def spCoA (P : Program) (w : World) (C : Addr) : Sp := fun vs H Q _ => ∃ (p q : Addr) (as : List LfX.Act) (a : LfX.Act), vs = [.ref p, .ref q] ∧ AcW P w C H p as ∧ H q = some (.tup (actVs a)) ∧ ActW a ∧ Q (.bl (decide (a ∈ as))) H
def spMdA (P : Program) (w : World) (C : Addr) : Sp := fun vs H Q _ => ∃ (l : Addr) (ts : List Addr) (as : List LfX.Act), vs = [.ref C, .ref l] ∧ H l = some (.lst (ts.map V.ref)) ∧ ActsAt H ts as ∧ AllW as ∧ as.length ≤ 1000 ∧ ∀ (r : Addr) (H' : Hp), AcW P w C H' r (lawSort as) → Same H H' → Q (.ref r) H'
def spLnA (P : Program) (w : World) (C : Addr) : Sp := fun vs H Q _ => ∃ (p : Addr) (as : List LfX.Act), vs = [.ref p] ∧ AcW P w C H p as ∧ Q (.int (as.length : Nat)) H
/-- two sets in, one set out -/
def spBin (P : Program) (w : World) (C : Addr) (op : List LfX.Act → List LfX.Act → List LfX.Act) : Sp := fun vs H Q _ => ∃ (p q : Addr) (as bs : List LfX.Act), vs = [.ref p, .ref q] ∧ AcW P w C H p as ∧ AcW P w C H q bs ∧ AllW as ∧ AllW bs ∧ as.length ≤ 400 ∧ bs.length ≤ 400 ∧
  ∀ (r : Addr) (H' : Hp), AcW P w C H' r (lawSort (op as bs)) → Same H H' → Q (.ref r) H'
def spWiA (P : Program) (w : World) (C : Addr) : Sp := fun vs H Q _ => ∃ (p q : Addr) (as bs : List LfX.Act), vs = [.ref p, .ref q] ∧ AcW P w C H p as ∧ AcW P w C H q bs ∧ AllW as ∧ as.length ≤ 400 ∧ ∀ H', Same H H' → Q (.bl (as.all fun a => decide (a ∈ bs))) H'
def inB (bs : List LfX.Act) (a : LfX.Act) : Bool := decide (a ∈ bs)
def outB (bs : List LfX.Act) (a : LfX.Act) : Bool := !decide (a ∈ bs)
def spInR (P : Program) (w : World) (C : Addr) : Sp := fun vs H Q E => ∃ ws rest, vs = ws ++ rest ∧ ws.length = 1 ∧ rest.length ≤ sizeLine ∧ ∀ p, H p = none → spIn P w C (ws ++ [V.ref p]) (upd H p (.tup rest)) Q E
/-- what the making of a set asks -/
theorem initA {P : Program} {w : World} {C : Addr} {H : Hp} {ts : List Addr} {as : List LfX.Act} {Q : VK} {E : XK} (R : ActsAt H ts as) (g : AllW as) (hl : as.length ≤ 1000) (k : ∀ (r : Addr) (H' : Hp), AcW P w C H' r (lawSort as) → Same H H' → Q (.ref r) H') :
    ∀ x dx, H x = none → H dx = none → dx ≠ x → spInR P w C (V.ref x :: ts.map V.ref) (upd (upd H dx (.own x)) x (.ins C dx [])) (fun v H2 => v = .non ∧ Q (.ref x) H2) E := by
  intro x dx nx ndx ne
  refine ⟨[V.ref x], _, rfl, rfl, ?_, fun pt hpt => ?_⟩
  · rw [List.length_map, R.1]; show _ ≤ 16777216; omega
  have s1 : Same H (upd (upd H dx (.own x)) x (.ins C dx [])) := ((Same.refl H).put ndx).put nx
  have s2 : Same H (upd (upd (upd H dx (.own x)) x (.ins C dx [])) pt (.tup (ts.map V.ref))) := s1.put (s1.free hpt)
  exact ⟨x, dx, pt, ts, as, rfl, by rw [upd_ne (ne_of_none upd_same hpt), upd_same], upd_same, R.mono fun b r e => s2 b _ e, g, hl, fun H' cl kp => ⟨rfl, k x H' cl fun b o e => kp b o (s2 b o e) (ne_of_none e nx)⟩⟩
section
variable {P : Program} {w : World} {K : PySem.W.Frag} {mg : Str → Option Value} {base : Heap}
theorem scMd : FnScope nMd ["cls", "rows"] (defScope sMd) := ⟨rfl, rfl, rfl, by decide +kernel, rfl, by decide +kernel, by decide +kernel⟩
theorem scLn : FnScope nLn ["self"] (defScope sLn) := ⟨rfl, rfl, rfl, by decide +kernel, rfl, by decide +kernel, by decide +kernel⟩
theorem scCo : FnScope nCo ["self", "x"] (defScope sCo) := ⟨rfl, rfl, rfl, by decide +kernel, rfl, by decide +kernel, by decide +kernel⟩
theorem scOr : FnScope nOr ["self", "other"] (defScope sOr) := ⟨rfl, rfl, rfl, by decide +kernel, rfl, by decide +kernel, by decide +kernel⟩
theorem scAn : FnScope nAn ["self", "other"] (defScope sAn) := ⟨rfl, rfl, rfl, by decide +kernel, rfl, by decide +kernel, by decide +kernel⟩
theorem scSu : FnScope nSu ["self", "other"] (defScope sSu) := ⟨rfl, rfl, rfl, by decide +kernel, rfl, by decide +kernel, by decide +kernel⟩
theorem scXo : FnScope nXo ["self", "other"] (defScope sXo) := ⟨rfl, rfl, rfl, by decide +kernel, rfl, by decide +kernel, by decide +kernel⟩
theorem scWi : FnScope nWi ["self", "other"] (defScope sWi) := ⟨rfl, rfl, rfl, by decide +kernel, rfl, by decide +kernel, by decide +kernel⟩
variable {f C fI fIA fC : Addr} {fd fdIA fdC : FuncData}
theorem ok_md (F : Fun K "made" "Acts.made" sMd f fd) (M : Mk K C fI) (GI : FnR P w K mg base CX0 4 fI (spInR P w C)) : FnOk P w K mg base CX0 6 f fd ["cls", "rows"] (spMdA P w C) := by
  refine F.ok scMd (fun vs H Q E h => ?_) (fun cdv A outer s H vs Q E hr h => ?_)
  · obtain ⟨l, ts, as, rfl, _⟩ := h
    rfl
  · obtain ⟨l, ts, as, rfl, hl, R, g, h30, k⟩ := h
    have hr5 : Room 5 _ := hr
    refine ⟨_, (pss_one (ps_ret (pe_makeL (i := 0) M GI hr5 rfl (Or.inl rfl) pass0 (pv 1)))), ?_⟩
    exact ⟨rfl, _, rfl, l, _, rfl, .inr (SqL.of hl), initA R g h30 k⟩
theorem ok_ln (F : Fun K "__len__" "Acts.__len__" sLn f fd) (Y : TxA K mg C) (T : Bi mg) : FnOk P w K mg base CX0 1 f fd ["self"] (spLnA P w C) := by
  refine F.ok scLn (fun vs H Q E h => ?_) (fun cdv A outer s H vs Q E hr h => ?_)
  · obtain ⟨p, as, rfl, _⟩ := h
    rfl
  · obtain ⟨p, as, rfl, ⟨dx, d, r, xs, qs, h1, h2, h3, h4, h5⟩, k⟩ := h
    refine ⟨_, (pss_one (ps_ret (pe_callB call_len_seq (by rfl) T.len PySem.boot_len (pa_cons (pe_fld (pv 0) rfl) pa_nil)))), ?_⟩
    refine ⟨_, rfl, p, C, dx, _, _, rfl, h1, Y.cl, Y.nR, fldA_rows _ _, r, _, rfl, .inr (SqT.of h4), ?_⟩
    rw [List.length_map, h5.1]
    exact k
theorem ok_co (F : Fun K "__contains__" "Acts.__contains__" sCo f fd) (Y : TxA K mg C) (IA : Df K mg "is_act" sIA fIA fdIA ["x"]) (GIA : FnOk P w K mg base CX0 2 fIA fdIA ["x"] spIA) : FnOk P w K mg base CX0 3 f fd ["self", "x"] (spCoA P w C) := by
  refine F.ok scCo (fun vs H Q E h => ?_) (fun cdv A outer s H vs Q E hr h => ?_)
  · obtain ⟨p, q, as, a, rfl, _⟩ := h
    rfl
  · obtain ⟨p, q, as, a, rfl, ⟨dx, d, r, xs, qs, h1, h2, h3, h4, h5⟩, hq, wa, k⟩ := h
    have hr2 : Room 2 _ := hr
    have hu := hu_of hr
    refine ⟨_, (pss_one (ps_ret (pe_and (pe_call GIA hr2 (by rfl) IA.m IA.F.kp IA.b .nil pass0 (pa_cons (pv 1) pa_nil)) (pe_one (pe_cmpR (op_inL hu) (pv 1) (pe_fld (pv 0) rfl) rfl))))), ?_⟩
    refine ⟨_, rfl, q, a, rfl, hq, wa.sz, ?_⟩
    rw [wa.isA]
    have hq2 := hq
    rw [← act_leaves] at hq2
    refine ⟨true, rfl, iteT ⟨_, rfl, _, rfl, p, C, dx, _, _, rfl, h1, Y.cl, Y.nK, fldA_known _ _, q, d, actL a, xs, rfl, rfl, hq2, h2, ?_⟩⟩
    rw [if_neg Bool.false_ne_true, decide_eq_decide.mpr (h3 a)]
    exact k
theorem ok_or (F : Fun K "__or__" "Acts.__or__" sOr f fd) (Y : TxA K mg C) (M : Mk K C fI) (GI : FnR P w K mg base CX0 4 fI (spInR P w C)) : FnOk P w K mg base CX0 6 f fd ["self", "other"] (spBin P w C (· ++ ·)) := by
  refine F.ok scOr (fun vs H Q E h => ?_) (fun cdv A outer s H vs Q E hr h => ?_)
  · obtain ⟨p, q, as, bs, rfl, _⟩ := h
    rfl
  · obtain ⟨p, q, as, bs, rfl, ⟨dx, d, r, xs, qs, h1, h2, h3, h4, h5⟩, ⟨dy, d', r', ys, qs', g1, g2, g3, g4, g5⟩, wa, wb, la, lb, k⟩ := h
    have hr5 : Room 5 _ := hr
    refine ⟨_, (pss_cons (ps_set (i := 2) scOr.nd rfl (Or.inl rfl) (pe_op op_cat2 (pe_fld (pv 0) rfl) (pe_fld (pv 1) rfl)))
      (pss_one (ps_ret (pe_makeSG M GI hr5 (by rfl) Y.mgC pass0 (pv 2))))), ?_⟩
    refine ⟨_, rfl, p, C, dx, _, _, rfl, h1, Y.cl, Y.nR, fldA_rows _ _, _, rfl, q, C, dy, _, _, rfl, g1, Y.cl, Y.nR, fldA_rows _ _, r, r', _, _, rfl, rfl, h4, g4, ?_, fun t H1 s1 ht => ?_⟩
    · rw [List.length_map, List.length_map, h5.1, g5.1]; show _ ≤ 16777216; omega
    rw [← List.map_append] at ht
    have A1 : ActsAt H1 (qs ++ qs') (as ++ bs) := (acts_app h5 g5).mono fun b xs e => s1 _ _ e
    exact ⟨_, rfl, t, _, rfl, .inl (SqT.of ht), initA A1 (fun a ha => (List.mem_append.mp ha).elim (wa a) (wb a)) (by rw [List.length_append]; omega) fun r2 H2 aw s2 => k r2 H2 aw (s1.trans s2)⟩
end
end K2
end
section
set_option Elab.async false
set_option maxRecDepth 100000
set_option linter.all false
/-! sets of acts: &, -, ^, within -/
namespace K2
open PySem L2 LfX PySem.Spec PyProof.Rows
theorem AcW.in_ {P : Program} {w : World} {C p q : Addr} {H : Hp} {as : List LfX.Act} {a : LfX.Act} {Q : V → Hp → Prop} (h : AcW P w C H p as) (hq : H q = some (.tup (actVs a))) (wa : ActW a) (k : Q (.bl (decide (a ∈ as))) H) : rInO C (spCoA P w C) (.ref q) (.ref p) H Q := by
  obtain ⟨dx, fs, e1, _⟩ := h.ins
  exact ⟨p, dx, fs, rfl, e1, p, q, as, a, rfl, h, hq, wa, _, rfl, k⟩
theorem AcW.nin {P : Program} {w : World} {C p q : Addr} {H : Hp} {as : List LfX.Act} {a : LfX.Act} {Q : V → Hp → Prop} (h : AcW P w C H p as) (hq : H q = some (.tup (actVs a))) (wa : ActW a) (k : Q (.bl (!decide (a ∈ as))) H) : rNinO C (spCoA P w C) (.ref q) (.ref p) H Q := by
  obtain ⟨dx, fs, e1, _⟩ := h.ins
  exact ⟨p, dx, fs, rfl, e1, p, q, as, a, rfl, h, hq, wa, _, rfl, k⟩
section
variable {P : Program} {w : World} {K : PySem.W.Frag} {mg : Str → Option Value} {base : Heap} {f C fI fIA fC : Addr} {fd fdIA fdC : FuncData}
theorem ok_an (F : Fun K "__and__" "Acts.__and__" sAn f fd) (Y : TxA K mg C) (M : Mk K C fI) (GI : FnR P w K mg base CX0 4 fI (spInR P w C)) (GC : FnOk P w K mg base CX0 3 fC fdC ["self", "x"] (spCoA P w C)) (bC : Binds K fdC ["self", "x"] [])
    (hC : PySem.W.findIn K (.ref C) "__contains__" = some (some (.ref fC))) (hCf : PySem.W.isFn K (.ref fC) = true) : FnOk P w K mg base CX0 6 f fd ["self", "other"] (spBin P w C fun as bs => as.filter (inB bs)) := by
  refine F.ok scAn (fun vs H Q E h => ?_) (fun cdv A outer s H vs Q E hr h => ?_)
  · obtain ⟨p, q, as, bs, rfl, _⟩ := h
    rfl
  · obtain ⟨p, q, as, bs, rfl, ⟨dx, d, r, xs, qs, h1, h2, h3, h4, h5⟩, B, wa, wb, la, lb, k⟩ := h
    have hr5 : Room 5 _ := hr
    have hr3 : Room 3 _ := hr.mono (by decide)
    refine ⟨_, (pss_cons (ps_setLc (i := 2) (own := [("row", 3)]) (g := gName 3) (tt := tTest (tOp (rInO C (spCoA P w C)) (tVar 3) (tVar 1))) rfl scAn.nd rfl rfl (sw_true rfl rfl rfl (by decide +kernel)) (pi_tup (pe_fld (pv 0) rfl)) (blkOk_by (N := nAn) (sc := defScope sAn) (by decide +kernel)) (fun _ _ _ _ _ => pg_name (i := 3) scAn.nd rfl (Or.inl rfl)) (fun s1 H1 C1 cl1 fp1 => pts_one ?el0) (fun _ _ _ _ _ => pv 3))
      (pss_one (ps_ret (pe_makeSG M GI hr5 (by rfl) Y.mgC pass0 (pv 2))))), ?_⟩
    case el0 => exact pt_cmpR (op_inO GC bC pass0 hr3 hC hCf) (pv 3) (pv 1) rfl
    refine ⟨_, rfl, p, C, dx, _, _, rfl, h1, Y.cl, Y.nR, fldA_rows _ _, r, rfl, ⟨_, SqT.of h4⟩, fun D hD => ?_⟩
    refine pick_tup (K := K) (p := inB bs) h4 h5 hD (by omega) (fun x b Hc Yes No hb hx sm hy hn => ?_) ?_
    · refine ⟨rfl, _, rfl, _, rfl, (B.same sm).in_ hx (wa b hb) ⟨_, rfl, ?_⟩⟩
      show if decide (b ∈ bs) = true then _ else _
      split
      · rename_i c
        exact ⟨_, rfl, hy c _ (Same.refl _)⟩
      · rename_i c
        exact hn (by simpa [inB] using c) _ (Same.refl _)
    · rintro H2 ⟨qs2, e2, A2, s2⟩
      have hl := List.length_filter_le (inB bs) as
      exact ⟨_, rfl, D, _, rfl, .inr (SqL.of e2), initA A2 (fun a ha => wa a (List.mem_filter.mp ha).1) (by omega) fun r2 H3 aw s3 => k r2 H3 aw (s2.trans s3)⟩
theorem ok_su (F : Fun K "__sub__" "Acts.__sub__" sSu f fd) (Y : TxA K mg C) (M : Mk K C fI) (GI : FnR P w K mg base CX0 4 fI (spInR P w C)) (GC : FnOk P w K mg base CX0 3 fC fdC ["self", "x"] (spCoA P w C)) (bC : Binds K fdC ["self", "x"] [])
    (hC : PySem.W.findIn K (.ref C) "__contains__" = some (some (.ref fC))) (hCf : PySem.W.isFn K (.ref fC) = true) : FnOk P w K mg base CX0 6 f fd ["self", "other"] (spBin P w C fun as bs => as.filter (outB bs)) := by
  refine F.ok scSu (fun vs H Q E h => ?_) (fun cdv A outer s H vs Q E hr h => ?_)
  · obtain ⟨p, q, as, bs, rfl, _⟩ := h
    rfl
  · obtain ⟨p, q, as, bs, rfl, ⟨dx, d, r, xs, qs, h1, h2, h3, h4, h5⟩, B, wa, wb, la, lb, k⟩ := h
    have hr5 : Room 5 _ := hr
    have hr3 : Room 3 _ := hr.mono (by decide)
    refine ⟨_, (pss_cons (ps_setLc (i := 2) (own := [("row", 3)]) (g := gName 3) (tt := tTest (tOp (rNinO C (spCoA P w C)) (tVar 3) (tVar 1))) rfl scSu.nd rfl rfl (sw_true rfl rfl rfl (by decide +kernel)) (pi_tup (pe_fld (pv 0) rfl)) (blkOk_by (N := nSu) (sc := defScope sSu) (by decide +kernel)) (fun _ _ _ _ _ => pg_name (i := 3) scSu.nd rfl (Or.inl rfl)) (fun s1 H1 C1 cl1 fp1 => pts_one ?el0) (fun _ _ _ _ _ => pv 3))
      (pss_one (ps_ret (pe_makeSG M GI hr5 (by rfl) Y.mgC pass0 (pv 2))))), ?_⟩
    case el0 => exact pt_cmpR (op_ninO GC bC pass0 hr3 hC hCf) (pv 3) (pv 1) rfl
    refine ⟨_, rfl, p, C, dx, _, _, rfl, h1, Y.cl, Y.nR, fldA_rows _ _, r, rfl, ⟨_, SqT.of h4⟩, fun D hD => ?_⟩
    refine pick_tup (K := K) (p := outB bs) h4 h5 hD (by omega) (fun x b Hc Yes No hb hx sm hy hn => ?_) ?_
    · refine ⟨rfl, _, rfl, _, rfl, (B.same sm).nin hx (wa b hb) ⟨_, rfl, ?_⟩⟩
      show if (!decide (b ∈ bs)) = true then _ else _
      split
      · rename_i c
        exact ⟨_, rfl, hy c _ (Same.refl _)⟩
      · rename_i c
        exact hn (by simpa [outB] using c) _ (Same.refl _)
    · rintro H2 ⟨qs2, e2, A2, s2⟩
      have hl := List.length_filter_le (outB bs) as
      exact ⟨_, rfl, D, _, rfl, .inr (SqL.of e2), initA A2 (fun a ha => wa a (List.mem_filter.mp ha).1) (by omega) fun r2 H3 aw s3 => k r2 H3 aw (s2.trans s3)⟩
theorem ok_xo (F : Fun K "__xor__" "Acts.__xor__" sXo f fd) (Y : TxA K mg C) (M : Mk K C fI) (GI : FnR P w K mg base CX0 4 fI (spInR P w C)) (GC : FnOk P w K mg base CX0 3 fC fdC ["self", "x"] (spCoA P w C)) (bC : Binds K fdC ["self", "x"] [])
    (hC : PySem.W.findIn K (.ref C) "__contains__" = some (some (.ref fC))) (hCf : PySem.W.isFn K (.ref fC) = true) : FnOk P w K mg base CX0 6 f fd ["self", "other"] (spBin P w C fun as bs => as.filter (outB bs) ++ bs.filter (outB as)) := by
  refine F.ok scXo (fun vs H Q E h => ?_) (fun cdv A outer s H vs Q E hr h => ?_)
  · obtain ⟨p, q, as, bs, rfl, _⟩ := h
    rfl
  · obtain ⟨p, q, as, bs, rfl, A, B, wa, wb, la, lb, k⟩ := h
    have hr5 : Room 5 _ := hr
    have hr3 : Room 3 _ := hr.mono (by decide)
    refine ⟨_, (pss_cons (ps_setLc (i := 2) (own := [("row", 5)]) (g := gName 5) (tt := tTest (tOp (rNinO C (spCoA P w C)) (tVar 5) (tVar 1))) rfl scXo.nd rfl rfl (sw_true rfl rfl rfl (by decide +kernel)) (pi_tup (pe_fld (pv 0) rfl)) (blkOk_by (N := nXo) (sc := defScope sXo) (by decide +kernel)) (fun _ _ _ _ _ => pg_name (i := 5) scXo.nd rfl (Or.inl rfl)) (fun s1 H1 C1 cl1 fp1 => pts_one ?el0) (fun _ _ _ _ _ => pv 5))
      (pss_cons (ps_setLc (i := 3) (own := [("row", 5)]) (g := gName 5) (tt := tTest (tOp (rNinO C (spCoA P w C)) (tVar 5) (tVar 0))) rfl scXo.nd rfl rfl (sw_true rfl rfl rfl (by decide +kernel)) (pi_tup (pe_fld (pv 1) rfl)) (blkOk_by (N := nXo) (sc := defScope sXo) (by decide +kernel)) (fun _ _ _ _ _ => pg_name (i := 5) scXo.nd rfl (Or.inl rfl)) (fun s1 H1 C1 cl1 fp1 => pts_one ?el1) (fun _ _ _ _ _ => pv 5))
      (pss_cons (ps_set (i := 4) scXo.nd rfl (Or.inl rfl) (pe_op op_cat (pv 2) (pv 3)))
      (pss_one (ps_ret (pe_makeSG M GI hr5 (by rfl) Y.mgC pass0 (pv 4))))))), ?_⟩
    case el0 => exact pt_cmpR (op_ninO GC bC pass0 hr3 hC hCf) (pv 5) (pv 1) rfl
    case el1 => exact pt_cmpR (op_ninO GC bC pass0 hr3 hC hCf) (pv 5) (pv 0) rfl
    obtain ⟨dx, d, r, xs, qs, h1, h2, h3, h4, h5⟩ := id A
    refine ⟨_, rfl, p, C, dx, _, _, rfl, h1, Y.cl, Y.nR, fldA_rows _ _, r, rfl, ⟨_, SqT.of h4⟩, fun D hD => ?_⟩
    refine pick_tup (K := K) (p := outB bs) h4 h5 hD (by omega) (fun x b Hc Yes No hb hx sm hy hn => ?_) ?_
    · refine ⟨rfl, _, rfl, _, rfl, (B.same sm).nin hx (wa b hb) ⟨_, rfl, ?_⟩⟩
      show if (!decide (b ∈ bs)) = true then _ else _
      split
      · rename_i c
        exact ⟨_, rfl, hy c _ (Same.refl _)⟩
      · rename_i c
        exact hn (by simpa [outB] using c) _ (Same.refl _)
    rintro H2 ⟨qs2, e2, A2, s2⟩
    obtain ⟨dy, d', r', ys, qs', g1, g2, g3, g4, g5⟩ := B.same s2
    refine ⟨_, rfl, q, C, dy, _, _, rfl, g1, Y.cl, Y.nR, fldA_rows _ _, r', rfl, ⟨_, SqT.of g4⟩, fun D2 hD2 => ?_⟩
    refine pick_tup (K := K) (p := outB as) g4 g5 hD2 (by omega) (fun x b Hc Yes No hb hx sm hy hn => ?_) ?_
    · refine ⟨rfl, _, rfl, _, rfl, (A.same (s2.trans sm)).nin hx (wb b hb) ⟨_, rfl, ?_⟩⟩
      show if (!decide (b ∈ as)) = true then _ else _
      split
      · rename_i c
        exact ⟨_, rfl, hy c _ (Same.refl _)⟩
      · rename_i c
        exact hn (by simpa [outB] using c) _ (Same.refl _)
    rintro H3 ⟨qs3, e3, A3, s3⟩
    have hl := List.length_filter_le (outB bs) as
    have hl2 := List.length_filter_le (outB as) bs
    refine ⟨_, rfl, _, rfl, D, D2, _, _, rfl, rfl, s3 _ _ e2, e3, ?_, fun D3 hD3 => ?_⟩
    · rw [List.length_map, List.length_map, A2.1, A3.1]; show _ ≤ 16777216; omega
    rw [← List.map_append]
    have s4 : Same H3 (upd H3 D3 (.lst ((qs2 ++ qs3).map V.ref))) := (Same.refl H3).put hD3
    have e4 : (upd H3 D3 (.lst ((qs2 ++ qs3).map V.ref))) D3 = some (.lst ((qs2 ++ qs3).map V.ref)) := upd_same
    generalize upd H3 D3 (.lst ((qs2 ++ qs3).map V.ref)) = H4 at s4 e4 ⊢
    have A4 := (acts_app (A2.mono fun b xs e => s3 _ _ e) A3).mono fun b xs e => s4 _ _ e
    exact ⟨_, rfl, D3, _, rfl, .inr (SqL.of e4), initA A4 (fun a ha => (List.mem_append.mp ha).elim (fun ha => wa a (List.mem_filter.mp ha).1) fun ha => wb a (List.mem_filter.mp ha).1) (by rw [List.length_append]; omega) fun r2 H5 aw s5 => k r2 H5 aw (((s2.trans s3).trans s4).trans s5)⟩
theorem ok_wi (F : Fun K "within" "Acts.within" sWi f fd) (Y : TxA K mg C) (T : Bi mg) (GC : FnOk P w K mg base CX0 3 fC fdC ["self", "x"] (spCoA P w C)) (bC : Binds K fdC ["self", "x"] [])
    (hC : PySem.W.findIn K (.ref C) "__contains__" = some (some (.ref fC))) (hCf : PySem.W.isFn K (.ref fC) = true) : FnOk P w K mg base CX0 4 f fd ["self", "other"] (spWiA P w C) := by
  refine F.ok scWi (fun vs H Q E h => ?_) (fun cdv A outer s H vs Q E hr h => ?_)
  · obtain ⟨p, q, as, bs, rfl, _⟩ := h
    rfl
  · obtain ⟨p, q, as, bs, rfl, ⟨dx, d, r, xs, qs, h1, h2, h3, h4, h5⟩, B, wa, la, k⟩ := h
    have hr3 : Room 3 _ := hr
    refine ⟨_, (pss_one (ps_ret (pe_callB (cr_all rfl) (by rfl) T.all (by decide +kernel) (pa_cons (pe_lc (own := [("row", 2)]) (g := gName 2) (tt := tYes) (te := tOp (rInO C (spCoA P w C)) (tVar 2) (tVar 1)) rfl scWi.nd (pi_tup (pe_fld (pv 0) rfl)) (blkOk_by (N := nWi) (sc := defScope sWi) (by decide +kernel)) (fun _ _ _ _ _ => pg_name (i := 2) scWi.nd rfl (Or.inl rfl)) (fun _ _ _ _ _ => pts_nil) (fun s1 H1 C1 cl1 fp1 => ?el0)) pa_nil)))), ?_⟩
    case el0 => exact pe_cmpR (op_inO GC bC pass0 hr3 hC hCf) (pv 2) (pv 1) rfl
    refine ⟨_, rfl, p, C, dx, _, _, rfl, h1, Y.cl, Y.nR, fldA_rows _ _, r, rfl, ⟨_, SqT.of h4⟩, fun D hD => ?_⟩
    refine lc_tup (K := K) (a := r) (xs := qs.map V.ref) (fun i Hc => Hc D = some (.lst (((as.take i).map fun a => decide (a ∈ bs)).map V.bl)) ∧ Same H Hc) ?_ ?_ ?_ ?_
    · exact ⟨upd_same, (Same.refl H).put hD⟩
    · rintro i Hc _ ⟨_, sm⟩
      exact SqT.of (sm _ _ h4)
    · rintro i y Hc hy ⟨hDl, sm⟩
      obtain ⟨x, b, rfl, hb, hx, hxb, hi⟩ := acts_nth h5 hy
      have et : as.take (i + 1) = as.take i ++ [b] := by rw [List.take_add_one, hb]; rfl
      refine ⟨rfl, _, rfl, _, rfl, (B.same sm).in_ (sm _ _ hxb) (wa b (List.mem_of_getElem? hb)) ⟨_, hDl, ?_, ?_, sm.put hD⟩⟩
      · rw [List.length_map, List.length_map, List.length_take]; show _ < 16777216; omega
      · rw [upd_same, et, List.map_append, List.map_append]
        rfl
    · rintro Hc ⟨hDl, sm⟩
      rw [List.length_map, h5.1, List.take_length] at hDl
      refine ⟨D, _, rfl, SqL.of hDl, ?_⟩
      have e : ((as.map fun a => decide (a ∈ bs)).all id) = as.all fun a => decide (a ∈ bs) := by rw [List.all_map]; rfl
      rw [e]
      exact k Hc sm
end
end K2
end
section
set_option Elab.async false
set_option maxRecDepth 100000
set_option linter.all false
namespace K2
open PySem L2 PySem.Spec PyProof.Rows
theorem rising_pw : ∀ (p : Str) (l : List Str), PyProof.Rows.risingS p l = true → (p :: l).Pairwise (fun a b => PySem.Spec.ltCps b.cps.toList a.cps.toList = false)
  | p, [], _ => List.pairwise_singleton _ _
  | p, x :: r, h => by
    have h2 := Bool.and_eq_true_iff.mp (show (!PySem.Spec.ltCps x.cps.toList p.cps.toList && PyProof.Rows.risingS x r) = true from h)
    have ih := rising_pw x r h2.2
    have h1 : PySem.Spec.ltCps x.cps.toList p.cps.toList = false := by simpa using h2.1
    refine List.pairwise_cons.mpr ⟨fun y hy => ?_, ih⟩
    rcases List.mem_cons.mp hy with rfl | hy
    · exact h1
    · have h3 := (List.pairwise_cons.mp ih).1 y hy
      rw [PyProof.Rows.ltCps_eq, decide_eq_false_iff_not] at h1 h3 ⊢
      exact List.le_trans (α := Nat) (l₁ := p.cps.toList) (l₂ := x.cps.toList) (l₃ := y.cps.toList) h1 h3
theorem sorted_pw : ∀ l : List Str, PyProof.Rows.sortedS l = true → l.Pairwise (fun a b => PySem.Spec.ltCps b.cps.toList a.cps.toList = false)
  | [], _ => .nil
  | x :: r, h => rising_pw x r h
theorem sorted_sub {l l' : List Str} (h : PyProof.Rows.sortedS l' = true) (s : l.Sublist l') : PyProof.Rows.sortedS l = true := PyProof.Rows.sortedS_of_pairwise l ((sorted_pw l' h).sublist s)
theorem sorted_one : ∀ {l l' : List Str}, l.Nodup → l'.Nodup → PyProof.Rows.sortedS l = true → PyProof.Rows.sortedS l' = true → (∀ y, y ∈ l ↔ y ∈ l') → l = l' := by
  have anti : ∀ {a b : Str}, PySem.Spec.ltCps a.cps.toList b.cps.toList = false → PySem.Spec.ltCps b.cps.toList a.cps.toList = false → a = b := fun {a b} h1 h2 => by
    rw [PyProof.Rows.ltCps_eq, decide_eq_false_iff_not] at h1 h2
    have e : a.cps.toList = b.cps.toList := List.le_antisymm (α := Nat) h2 h1
    have e2 : a.cps = b.cps := Array.toList_inj.mp e
    cases a
    cases b
    cases e2
    rfl
  intro l
  induction l with
  | nil =>
    intro l' _ _ _ _ h
    cases l' with
    | nil => rfl
    | cons y r => exact absurd ((h y).mpr List.mem_cons_self) (by simp)
  | cons x l ih =>
    intro l' n1 n2 s1 s2 h
    cases l' with
    | nil => exact absurd ((h x).mp List.mem_cons_self) (by simp)
    | cons y r =>
      have p1 := List.pairwise_cons.mp (sorted_pw _ s1)
      have p2 := List.pairwise_cons.mp (sorted_pw _ s2)
      have e : x = y := by
        rcases List.mem_cons.mp ((h x).mp List.mem_cons_self) with q | q
        · exact q
        · rcases List.mem_cons.mp ((h y).mpr List.mem_cons_self) with q2 | q2
          · exact q2.symm
          · exact anti (p2.1 x q) (p1.1 y q2)
      subst e
      have m1 := List.nodup_cons.mp n1
      have m2 := List.nodup_cons.mp n2
      rw [ih m1.2 m2.2 (sorted_sub s1 (List.sublist_cons_self _ _)) (sorted_sub s2 (List.sublist_cons_self _ _)) fun z => ?_]
      constructor
      · intro hz
        rcases List.mem_cons.mp ((h z).mp (List.mem_cons_of_mem _ hz)) with q | q
        · exact absurd (q ▸ hz) m1.1
        · exact q
      · intro hz
        rcases List.mem_cons.mp ((h z).mpr (List.mem_cons_of_mem _ hz)) with q | q
        · exact absurd (q ▸ hz) m2.1
        · exact q
/-! ### lists and tuples beside empty ones -/
section
variable {X : Cx}
/-- xs != [] of any list -/
def rNeL0 (K : PySem.W.Frag) : R2 := fun x y H Q => ∃ a b xs, x = .ref a ∧ y = .ref b ∧ SqL K H a xs ∧ SqL K H b [] ∧ Q (.bl (!xs.isEmpty)) H
def rEqL0 (K : PySem.W.Frag) : R2 := fun x y H Q => ∃ a b xs, x = .ref a ∧ y = .ref b ∧ SqL K H a xs ∧ SqL K H b [] ∧ Q (.bl xs.isEmpty) H
/-- t != () of any tuple -/
def rNeT0 (K : PySem.W.Frag) : R2 := fun x y H Q => ∃ a b xs, x = .ref a ∧ y = .ref b ∧ SqT K H a xs ∧ SqT K H b [] ∧ Q (.bl (!xs.isEmpty)) H
theorem op_neL0 (hu : X.A.units < cLine) : OpR X (compareOp .NotEq) (rNeL0 X.K) := by
  intro pins s σ H x y v u Q I rx ry h
  obtain ⟨a, b, xs, rfl, rfl, ha, hb, q⟩ := h
  cases rx
  cases ry
  obtain ⟨as, ra, la, _⟩ := I.list ha
  obtain ⟨bs, rb, lb, _⟩ := I.list hb
  cases rb
  have fin : EP X pins σ Q (.bool (!xs.isEmpty)) s := ⟨.bl _, H, I, rfl, q⟩
  show wpAny (model X.prog X.w) X.A (richCompare .NotEq (.ref a) (.ref b)) (EP X pins σ Q) X.xe s
  cases ra with
  | nil => exact SeqAt.RcNeAt.lists (e := fun _ => true) la.isList lb.isList rfl hu (fun j h1 h2 => absurd h1 (Nat.not_lt_zero j)) _ _ _ _ fin
  | cons r t => exact SeqAt.RcNeAt.lists_lengths la.isList lb.isList (by simp) hu _ _ _ _ fin
theorem op_eqL0 (hu : X.A.units < cLine) : OpR X (compareOp .Eq) (rEqL0 X.K) := by
  intro pins s σ H x y v u Q I rx ry h
  obtain ⟨a, b, xs, rfl, rfl, ha, hb, q⟩ := h
  cases rx
  cases ry
  obtain ⟨as, ra, la, _⟩ := I.list ha
  obtain ⟨bs, rb, lb, _⟩ := I.list hb
  cases rb
  have fin : EP X pins σ Q (.bool xs.isEmpty) s := ⟨.bl _, H, I, rfl, q⟩
  show wpAny (model X.prog X.w) X.A (richCompare .Eq (.ref a) (.ref b)) (EP X pins σ Q) X.xe s
  cases ra with
  | nil => exact SeqAt.RcAt.lists (e := fun _ => true) la.isList lb.isList rfl hu (fun j h1 h2 => absurd h1 (Nat.not_lt_zero j)) _ _ _ _ fin
  | cons r t => exact SeqAt.RcAt.lists_lengths la.isList lb.isList (by simp) hu _ _ _ _ fin
theorem op_neT0 (hu : X.A.units < cLine) : OpR X (compareOp .NotEq) (rNeT0 X.K) := by
  intro pins s σ H x y v u Q I rx ry h
  obtain ⟨a, b, xs, rfl, rfl, ha, hb, q⟩ := h
  cases rx
  cases ry
  obtain ⟨as, ra, ta, _⟩ := I.tuple ha
  obtain ⟨bs, rb, tb, _⟩ := I.tuple hb
  cases rb
  have fin : EP X pins σ Q (.bool (!xs.isEmpty)) s := ⟨.bl _, H, I, rfl, q⟩
  show wpAny (model X.prog X.w) X.A (richCompare .NotEq (.ref a) (.ref b)) (EP X pins σ Q) X.xe s
  have := SeqAt.RcNeAt.tuples (A := X.A) (s := s) (e := fun _ => true) ta tb hu (fun j h1 h2 => absurd h2 (Nat.not_lt_zero j))
  cases ra with
  | nil => exact this _ _ _ _ fin
  | cons r t => exact this _ _ _ _ fin
/-! ### repr of None or of data -/
end
section
variable {p : Program} {w : World} {A : Around} {E : Value → Shared → Prop} {s : Shared}
end
section
variable {X : Cx}
def tLenSetG (ta : TE) : TE := fun σ H Q => ta σ H fun x H1 => ∃ (l : Addr) (xs : List Str), x = .ref l ∧ H1 l = some (.tup (xs.map V.str)) ∧ xs.length ≤ 1000 ∧ ∀ ys : List Str, ys.Nodup → (∀ y, y ∈ ys ↔ y ∈ xs) → Q (.int (ys.length : Nat)) H1
def tSortedSetT (te : TE) : TE := fun σ H Q => te σ H fun x H1 => ∃ (l : Addr) (xs : List Str), x = .ref l ∧ H1 l = some (.tup (xs.map V.str)) ∧ xs.length < 64 ∧
  ∀ (ys : List Str) (q : Addr), ys.Nodup → ys.length ≤ xs.length → (∀ y, y ∈ ys ↔ y ∈ xs) → sortedS ys = true → H1 q = none → Q (.ref q) (upd H1 q (.lst (ys.map V.str)))
end
end K2
end
section
set_option Elab.async false
set_option maxRecDepth 100000
set_option linter.all false
/-! a record put into itself -/
namespace K2
open PySem L2 PySem.Spec PyProof.Rows
theorem sIx_nat (n d v : Nat) : HT.sIx n d (some ((v : Nat) : Int)) = min v n := by
  show (if ((v : Nat) : Int) < 0 then (((v : Nat) : Int) + (n : Int)).toNat else min ((v : Nat) : Int).toNat n) = _
  rw [if_neg (by omega)]
  rfl
theorem cutT_mid {xs : List V} {a b : Nat} (h1 : a ≤ b) (h2 : b ≤ xs.length) : cutV xs (some ((a : Nat) : Int)) (some ((b : Nat) : Int)) = (xs.drop a).take (b - a) := by
  unfold cutV
  rw [sIx_nat, sIx_nat, Nat.min_eq_left h2, Nat.min_eq_left (Nat.le_trans h1 h2)]
theorem cutT_from {xs : List V} {a : Nat} (h1 : a ≤ xs.length) : cutV xs (some ((a : Nat) : Int)) none = xs.drop a := by
  unfold cutV
  rw [sIx_nat, Nat.min_eq_left h1]
  exact List.take_of_length_le (by rw [List.length_drop]; exact Nat.le_refl _)
theorem cutT_upto {xs : List V} {b : Nat} (h1 : b ≤ xs.length) : cutV xs none (some ((b : Nat) : Int)) = xs.take b := by
  unfold cutV
  rw [sIx_nat, Nat.min_eq_left h1]
  rfl
section
variable {P : Program} {w : World} {K : PySem.W.Frag} {mg : Str → Option Value} {base : Heap}
end
end K2
end
section
set_option Elab.async false
set_option maxRecDepth 100000
set_option linter.all false
/-! drawn acts, places, the law's order -/
namespace K2
open PySem L2 LfX PySem.Spec PyProof.Rows
abbrev sLa : Stmt := top 26
abbrev nLa : List Str := ["_law_pen_here", "_law_outside", "_law_classes", "_law_many", "_law_found", "_law_k", "_law_while_handled", "_law_outcome"]
abbrev nPl : List Str := ["_law_act"]
abbrev nSo : List Str := ["_law_acts_here", "_law_found", "_law_act", "_law_at", "_law_one"]
theorem u0_of {A : Around} {k : Nat} (hr : Room k A) : A.units < cLine := Nat.lt_of_succ_lt (hu_of hr)
theorem op_isBl {X : Cx} : OpR X (compareOp .Is) (fun x y H Q => ∃ a b, x = .bl a ∧ y = .bl b ∧ Q (.bl (decide (a = b))) H) := by
  intro pins s σ H x y v u Q I rx ry h
  obtain ⟨a, b, rfl, rfl, q⟩ := h
  cases rx
  cases ry
  exact wpAny_is_plain rfl (fin_bl I q (by cases a <;> cases b <;> rfl))
def spLa : Sp := fun vs H Q _ => ∃ (p c lo lc : Addr) (ns : List Int) (n m : Nat) (os cs : List Str), vs = [.ref p, .ref lo, .ref lc, .int m] ∧ Pen H p c ns n ∧ n + 3 * m ≤ 99990 ∧ H lo = some (.lst (os.map V.str)) ∧ H lc = some (.lst (cs.map V.str)) ∧ lo ≠ p ∧ lc ≠ p ∧ 0 < os.length ∧ os.length ≤ 100 ∧ cs.length ≤ 100 ∧
  (∀ x ∈ os, VW x) ∧ (∀ x ∈ cs, VW x) ∧ m ≤ 100 ∧ ∀ (l : Addr) (ts : List Addr) (as : List LfX.Act) (H' : Hp), H' l = some (.lst (ts.map V.ref)) → ActsAt H' ts as → AllW as → (∀ a ∈ as, a.cb ∈ os) → as.length = m → l ≠ p → Keep p H H' → Pen H' p c ns (n + 3 * m) → Q (.ref l) H'
def spPl : Sp := fun vs H Q _ => ∃ (q : Addr) (a : LfX.Act), vs = [.ref q] ∧ H q = some (.tup (actVs a)) ∧ ∀ r, H r = none → Q (.ref r) (upd H r (.tup (plVs a)))
def spSo : Sp := fun vs H Q _ => ∃ (l : Addr) (ts : List Addr) (as : List LfX.Act), vs = [.ref l] ∧ H l = some (.lst (ts.map V.ref)) ∧ ActsAt H ts as ∧ AllW as ∧ as.length ≤ 500 ∧
  ∀ (r : Addr) (qs : List Addr) (H' : Hp), H' r = some (.tup (qs.map V.ref)) → ActsAt H' qs (lawSort as) → Same H H' → Q (.ref r) H'
theorem Pen.tup_ne {H : Hp} {p c b : Addr} {ns : List Int} {n : Nat} {xs : List V} (P : Pen H p c ns n) (h : H b = some (.tup xs)) : b ≠ p := fun e => by
  obtain ⟨a, l, hp, _⟩ := P.pen
  rw [e, hp] at h
  cases h
theorem refs_ne_pen {H : Hp} {p c b : Addr} {ns : List Int} {n : Nat} {ts : List Addr} (P : Pen H p c ns n) (h : H b = some (.lst (ts.map V.ref))) : b ≠ p := fun e => by
  obtain ⟨a, l, hp, _⟩ := P.pen
  rw [e, hp] at h
  unfold penO at h
  match ts, h with
  | [], h => cases h
  | [_], h => cases h
  | _ :: _ :: _, h => cases h
theorem head_or (v0 : V) (cs : List Str) {j : Nat} (h : j < cs.length + 1) : ∃ v, ([v0] ++ cs.map V.str)[j]? = some v ∧ (v = v0 ∨ ∃ x ∈ cs, v = .str x) := by
  cases j with
  | zero => exact ⟨v0, rfl, .inl rfl⟩
  | succ j =>
    have hj : j < cs.length := by omega
    refine ⟨.str cs[j], ?_, .inr ⟨_, List.getElem_mem hj, rfl⟩⟩
    show (cs.map V.str)[j]? = _
    rw [List.getElem?_map, List.getElem?_eq_getElem hj]
    rfl
/-- the place of one before the place of another -/
def tPl : TT := fun σ H Q => ∃ (q q2 : Addr) (a b : LfX.Act), σ[4]? = some (some (.ref q)) ∧ σ[2]? = some (some (.ref q2)) ∧ H q = some (.tup (actVs a)) ∧ H q2 = some (.tup (actVs b)) ∧ a.out ≠ Str.empty ∧ b.out ≠ Str.empty ∧ ∀ H', Same H H' → Q (ltA a b) H'
section
variable {P : Program} {w : World} {K : PySem.W.Frag} {mg : Str → Option Value} {base : Heap}
theorem scLa : FnScope nLa ["_law_pen_here", "_law_outside", "_law_classes", "_law_many"] (defScope sLa) := ⟨rfl, rfl, rfl, by decide +kernel, rfl, by decide +kernel, by decide +kernel⟩
theorem ok_la {f fD : Addr} {fd fdD : FuncData} (F : Fun K "_law_acts" "_law_acts" sLa f fd) (T : Bi mg) (D : Df K mg "_law_draw" sDraw fD fdD ["_law_pen_here", "_law_many"]) (GD : FnOk P w K mg base CX0 1 fD fdD ["_law_pen_here", "_law_many"] spDraw) :
    FnOk P w K mg base CX0 2 f fd ["_law_pen_here", "_law_outside", "_law_classes", "_law_many"] spLa := by
  refine F.ok scLa (fun vs H Q E h => ?_) (fun cdv A outer s H vs Q E hr h => ?_)
  · obtain ⟨p, c, lo, lc, ns, n, m, os, cs, rfl, _⟩ := h
    rfl
  · obtain ⟨p, c, lo, lc, ns, n, m, os, cs, rfl, P0, hn, hlo, hlc, nlo, nlc, o0, o1, c1, vo, vc, hm, k⟩ := h
    have hr1 : Room 1 _ := hr
    refine ⟨_, (pss_cons (ps_set (i := 4) scLa.nd rfl (Or.inl rfl) (pe_lst pa_nil))
      (pss_cons (ps_for PassesOwn.never rfl (pi_range1 rfl T.range (pa_cons (pv 3) pa_nil)) (pg_name (i := 5) scLa.nd rfl (Or.inl rfl))
      (pss_cons (ps_set (i := 6) scLa.nd rfl (Or.inl rfl) (pe_ix ix_list (pe_op op_cat (pe_lst (pa_cons pe_non pa_nil)) (pv 2)) (pe_call GD hr1 (by rfl) D.m D.F.kp D.b .nil pass0 (pa_cons (pv 0) (pa_cons (pe_op op_add (pe_callB call_len_seq (by rfl) T.len PySem.boot_len (pa_cons (pv 2) pa_nil)) pe_int) pa_nil))) (fun _ _ => rfl)))
        (pss_cons (ps_set (i := 7) scLa.nd rfl (Or.inl rfl) (pe_ix ix_list (pe_op op_cat (pe_lst (pa_cons pe_str pa_nil)) (pv 2)) (pe_call GD hr1 (by rfl) D.m D.F.kp D.b .nil pass0 (pa_cons (pv 0) (pa_cons (pe_op op_add (pe_callB call_len_seq (by rfl) T.len PySem.boot_len (pa_cons (pv 2) pa_nil)) pe_int) pa_nil))) (fun _ _ => rfl)))
        (pss_one (ps_expr (pe_bm PySem.F.plainAttrs_list PySem.F.slot_list_append PySem.F.type_list_append mt_append (pv 4) (pa_cons (pe_tup (pa_cons (pe_ix ix_list (pv 1) (pe_call GD hr1 (by rfl) D.m D.F.kp D.b .nil pass0 (pa_cons (pv 0) (pa_cons (pe_callB call_len_seq (by rfl) T.len PySem.boot_len (pa_cons (pv 1) pa_nil)) pa_nil))) (fun _ _ => rfl)) (pa_cons (pv 6) (pa_cons (pv 7) pa_nil)))) pa_nil)))))))
      (pss_one (ps_ret (pv 4))))), ?_⟩
    refine ⟨Nat.zero_le _, fun l hl => ?_⟩
    have nl : l ≠ p := (P0.pne hl).symm
    have ncl : c ≠ l := P0.cne hl
    refine ⟨_, rfl, _, rfl, by omega, by omega, for_range (lo := 0) (n := m) (fun i σ Hc => ∃ (v5 v6 v7 : Option V) (ts : List Addr) (as : List LfX.Act), σ = [some (.ref p), some (.ref lo), some (.ref lc), some (.int m), some (.ref l), v5, v6, v7] ∧
      Hc l = some (.lst (ts.map V.ref)) ∧ ActsAt Hc ts as ∧ (AllW as ∧ ∀ a ∈ as, a.cb ∈ os) ∧ as.length = i ∧ Keep p H Hc ∧ Pen Hc p c ns (n + 3 * i)) ?_ ?_ ?_⟩
    · exact ⟨_, _, _, [], [], rfl, upd_same, ⟨rfl, fun j q a h => by simp at h⟩, ⟨fun a ha => by simp at ha, fun a ha => by simp at ha⟩, rfl, (Keep.refl p H).new hl, (P0.new hl).mono (by omega)⟩
    · rintro i σ Hc hi ⟨v5, v6, v7, ts, as, rfl, hL, AT, wa, al, kc, Pc⟩
      have hlc0 := kc _ _ hlc nlc
      have hlo0 := kc _ _ hlo nlo
      have cl1 : (((cs.length : Nat) : Int) + 1) = ((cs.length + 1 : Nat) : Int) := rfl
      refine ⟨(by show 1 ≤ sizeLine; decide), fun b1 hb1 => ?_⟩
      have s1 : Same Hc (upd Hc b1 (.lst [V.non])) := (Same.refl Hc).put hb1
      have e1 : (upd Hc b1 (.lst [V.non])) b1 = some (.lst [V.non]) := upd_same
      generalize upd Hc b1 (.lst [V.non]) = H1 at s1 e1 ⊢
      refine ⟨_, rfl, b1, lc, _, _, rfl, rfl, e1, s1 _ _ hlc0, (by rw [List.length_map]; show 1 + _ ≤ 16777216; omega), fun b2 hb2 => ?_⟩
      have s2 : Same H1 (upd H1 b2 (.lst ([V.non] ++ cs.map V.str))) := (Same.refl H1).put hb2
      have e2 : (upd H1 b2 (.lst ([V.non] ++ cs.map V.str))) b2 = some (.lst ([V.non] ++ cs.map V.str)) := upd_same
      generalize upd H1 b2 (.lst ([V.non] ++ cs.map V.str)) = H2 at s2 e2 ⊢
      have s02 := s1.trans s2
      have P2 := Pc.same s02
      have nb2 : b2 ≠ p := fun e => by
        obtain ⟨a, l', hp', _⟩ := (Pc.same s1).pen
        rw [← e, hb2] at hp'
        cases hp'
      refine ⟨_, rfl, _, rfl, lc, _, rfl, .inl (SqL.of (s02 _ _ hlc0)), _, _, rfl, rfl, p, c, ns, n + 3 * i, cs.length + 1, (by rw [List.length_map]; rfl), P2, by omega, by omega, by omega, fun dv H3 d0 d1 k3 P3 => ?_⟩
      obtain ⟨j, rfl⟩ : ∃ j : Nat, dv = (j : Int) := ⟨dv.toNat, (Int.toNat_of_nonneg d0).symm⟩
      obtain ⟨vh, hvh, eh⟩ := head_or V.non cs (j := j) (by omega)
      refine ⟨b2, _, _, _, rfl, rfl, SqL.of (k3 _ _ e2 nb2), atI_nat (j := j) hvh, ?_⟩
      have k03 := s02.keep.trans k3
      clear s1 s2 e1 e2 s02 P2
      have hlc3 := k03 _ _ hlc0 nlc
      refine ⟨(by show 1 ≤ sizeLine; decide), fun b3 hb3 => ?_⟩
      have s1 : Same H3 (upd H3 b3 (.lst [V.str "returns"])) := (Same.refl H3).put hb3
      have e1 : (upd H3 b3 (.lst [V.str "returns"])) b3 = some (.lst [V.str "returns"]) := upd_same
      generalize upd H3 b3 (.lst [V.str "returns"]) = H4 at s1 e1 ⊢
      refine ⟨_, rfl, b3, lc, _, _, rfl, rfl, e1, s1 _ _ hlc3, (by rw [List.length_map]; show 1 + _ ≤ 16777216; omega), fun b4 hb4 => ?_⟩
      have s2 : Same H4 (upd H4 b4 (.lst ([V.str "returns"] ++ cs.map V.str))) := (Same.refl H4).put hb4
      have e2 : (upd H4 b4 (.lst ([V.str "returns"] ++ cs.map V.str))) b4 = some (.lst ([V.str "returns"] ++ cs.map V.str)) := upd_same
      generalize upd H4 b4 (.lst ([V.str "returns"] ++ cs.map V.str)) = H5 at s2 e2 ⊢
      have s35 := s1.trans s2
      have P5 := P3.same s35
      have nb4 : b4 ≠ p := fun e => by
        obtain ⟨a, l', hp', _⟩ := (P3.same s1).pen
        rw [← e, hb4] at hp'
        cases hp'
      refine ⟨_, rfl, _, rfl, lc, _, rfl, .inl (SqL.of (s35 _ _ hlc3)), _, _, rfl, rfl, p, c, ns, _, cs.length + 1, (by rw [List.length_map]; rfl), P5, by omega, by omega, by omega, fun dv2 H6 d20 d21 k6 P6 => ?_⟩
      obtain ⟨j2, rfl⟩ : ∃ j : Nat, dv2 = (j : Int) := ⟨dv2.toNat, (Int.toNat_of_nonneg d20).symm⟩
      obtain ⟨vo2, hvo2, eo2⟩ := head_or (V.str "returns") cs (j := j2) (by omega)
      refine ⟨b4, _, _, _, rfl, rfl, SqL.of (k6 _ _ e2 nb4), atI_nat (j := j2) hvo2, ?_⟩
      have k06 := (k03.trans s35.keep).trans k6
      clear s1 s2 e1 e2 s35 P5
      have hL6 := k06 _ _ hL nl
      have hlo6 := k06 _ _ hlo0 nlo
      refine ⟨_, rfl, .inl ⟨rfl, _, SqL.of hL6⟩, _, rfl, _, rfl, _, rfl, lo, _, rfl, .inl (SqL.of hlo6), p, c, ns, _, os.length, (by rw [List.length_map]; rfl), P6, by omega, by omega, by omega, fun dv3 H7 d30 d31 k7 P7 => ?_⟩
      obtain ⟨j3, rfl⟩ : ∃ j : Nat, dv3 = (j : Int) := ⟨dv3.toNat, (Int.toNat_of_nonneg d30).symm⟩
      have hj3 : j3 < os.length := by omega
      have hv3 : (os.map V.str)[j3]? = some (V.str os[j3]) := by rw [List.getElem?_map, List.getElem?_eq_getElem hj3]; rfl
      have vo3 : VW os[j3] := vo _ (List.getElem_mem hj3)
      have mo3 : os[j3] ∈ os := List.getElem_mem hj3
      generalize os[j3] = x3 at hv3 vo3 mo3
      refine ⟨lo, _, _, _, rfl, rfl, SqL.of (k7 _ _ hlo6 nlo), atI_nat (j := j3) hv3, ?_⟩
      have k07 := k06.trans k7
      have hL7 := k7 _ _ hL6 nl
      obtain ⟨a, ea, wA, cA⟩ : ∃ a : LfX.Act, [V.str x3, vh, vo2] = actVs a ∧ ActW a ∧ a.cb = x3 := by
        rcases eh with rfl | ⟨x, hx, rfl⟩
        · rcases eo2 with rfl | ⟨y, hy, rfl⟩
          · exact ⟨⟨x3, none, "returns"⟩, rfl, ⟨vo3, (fun x e => by cases e), .inr rfl⟩, rfl⟩
          · exact ⟨⟨x3, none, y⟩, rfl, ⟨vo3, (fun x e => by cases e), .inl (vc y hy)⟩, rfl⟩
        · rcases eo2 with rfl | ⟨y, hy, rfl⟩
          · exact ⟨⟨x3, some x, "returns"⟩, rfl, ⟨vo3, (fun x' e => by cases e; exact vc x hx), .inr rfl⟩, rfl⟩
          · exact ⟨⟨x3, some x, y⟩, rfl, ⟨vo3, (fun x' e => by cases e; exact vc x hx), .inl (vc y hy)⟩, rfl⟩
      refine ⟨_, rfl, _, rfl, (by show 3 ≤ sizeLine; decide), fun q hq => ?_⟩
      rw [ea]
      have sq : Same H7 (upd H7 q (.tup (actVs a))) := (Same.refl H7).put hq
      have eq0 : (upd H7 q (.tup (actVs a))) q = some (.tup (actVs a)) := upd_same
      generalize upd H7 q (.tup (actVs a)) = H8 at sq eq0 ⊢
      have k08 := k07.trans sq.keep
      have hL8 := sq _ _ hL7
      have tl : ts.length = i := by rw [AT.1, al]
      refine ⟨l, _, _, rfl, rfl, hL8, (by rw [List.length_map, tl]; show _ < 16777216; omega), ?_⟩
      have AT8 := AT.mono fun b xs e => k08 _ _ e (Pc.tup_ne e)
      have hll : ∀ b xs, H8 b = some (.tup xs) → b ≠ l := fun b xs e => ne_of e hL8 (by intro z; cases z)
      refine ⟨_, _, _, ts ++ [q], as ++ [a], rfl, by rw [upd_same, List.map_append]; rfl, (acts_snoc AT8 eq0).mono fun b xs e => by rw [upd_ne (hll _ _ e)]; exact e, ⟨fun b hb => ?_, fun b hb => ?_⟩, by rw [List.length_append, al]; rfl, fun b o hb nb => ?_, ?_⟩
      · rcases List.mem_append.mp hb with hb | hb
        · exact wa.1 b hb
        · rw [List.mem_singleton.mp hb]; exact wA
      · rcases List.mem_append.mp hb with hb | hb
        · exact wa.2 b hb
        · rw [List.mem_singleton.mp hb, cA]; exact mo3
      · by_cases e : b = l
        · rw [e, hl] at hb; cases hb
        · rw [upd_ne e]
          exact k08 _ _ (kc _ _ hb nb) nb
      · exact ((P7.same sq).upd' nl.symm ncl).mono (by omega)
    · rintro σ Hc ⟨v5, v6, v7, ts, as, rfl, hL, AT, wa, al, kc, Pc⟩
      exact ⟨_, rfl, k l ts as Hc hL AT wa.1 wa.2 al nl kc Pc⟩
end
end K2
end
section
set_option Elab.async false
set_option maxRecDepth 100000
set_option linter.all false
/-! the law's order -/
namespace K2
open PySem L2 LfX PySem.Spec PyProof.Rows
theorem u65 {A : Around} {k : Nat} (hr : Room k A) : A.units + 65 < cLine := by have := hr.un; omega
theorem pt_imp {X : Cx} {e : Expr} {t t' : TT} (h : PT X e t) (k : ∀ σ H Q, t' σ H Q → t σ H Q) : PT X e t' := ⟨fun pins s σ H Q I q => h.run pins s σ H Q I (k σ H Q q)⟩
/-- what stands after some acts -/
def step1 (L : List LfX.Act) (x : LfX.Act) : List LfX.Act := if x ∈ L then L else insA L x
def upto (as : List LfX.Act) (i : Nat) : List LfX.Act := (as.take i).foldl step1 []
theorem upto_all (as : List LfX.Act) : upto as as.length = lawSort as := by
  unfold upto
  rw [List.take_length]
  rfl
theorem upto_succ {as : List LfX.Act} {i : Nat} {b : LfX.Act} (h : as[i]? = some b) : upto as (i + 1) = step1 (upto as i) b := by
  unfold upto
  rw [List.take_add_one, h, List.foldl_append]
  rfl
theorem upto_mem {as : List LfX.Act} {i : Nat} {y : LfX.Act} (h : y ∈ upto as i) : y ∈ as :=
  List.mem_of_mem_take (((lawSort_ok (as.take i) [] .nil List.nodup_nil).2.2 y).mp h |>.elim (fun z => absurd z (by simp)) id)
theorem upto_len (as : List LfX.Act) (i : Nat) : (upto as i).length ≤ i := by
  have h := lawSort_len (as.take i)
  have h2 : (as.take i).length ≤ i := by rw [List.length_take]; omega
  exact Nat.le_trans h h2
theorem acts_take {H : Hp} {qs : List Addr} {as : List LfX.Act} (h : ActsAt H qs as) (n : Nat) : ActsAt H (qs.take n) (as.take n) := by
  refine ⟨by rw [List.length_take, List.length_take, h.1], fun j q a h1 h2 => ?_⟩
  rw [List.getElem?_take] at h1 h2
  split at h1
  · rename_i hj
    rw [if_pos hj] at h2
    exact h.2 j q a h1 h2
  · cases h1
theorem acts_drop {H : Hp} {qs : List Addr} {as : List LfX.Act} (h : ActsAt H qs as) (n : Nat) : ActsAt H (qs.drop n) (as.drop n) := by
  refine ⟨by rw [List.length_drop, List.length_drop, h.1], fun j q a h1 h2 => ?_⟩
  rw [List.getElem?_drop] at h1 h2
  exact h.2 _ q a h1 h2
section
variable {P : Program} {w : World} {K : PySem.W.Frag} {mg : Str → Option Value} {base : Heap}
end
end K2
end
section
set_option Elab.async false
set_option maxRecDepth 100000
set_option linter.all false
/-! whether two sets are combined as they must be -/
namespace K2
open PySem L2 LfX PySem.Spec PyProof.Rows
abbrev nRi : List Str := ["_law_first", "_law_others", "_law_one", "_law_two", "_law_both", "_law_left", "_law_right_here", "_law_found", "_law_due", "_law_k", "_law_act"]
structure OwnA (K : PySem.W.Frag) (C : Addr) : Prop where
  ha : PySem.W.findIn K (.ref C) "__class__" = some (some (.builtin "object.__class__"))
  hn : PySem.W.specialIn K (.builtin "object.__class__") "__get__" = some (some (.builtin "getset_descriptor.__get__"))
  htk : PySem.W.takesIn K (.builtin "object.__class__") = some true
  hm : PySem.W.mroIn K C (.type "object") = some true
theorem kit_own {K : PySem.W.Frag} (C : Addr) : PySem.W.kitOne K (.ref C) (.ref C) = some true := by
  unfold PySem.W.kitOne
  rw [if_pos (by simp)]
theorem AcW.ty {P : Program} {w : World} {K : PySem.W.Frag} {C p : Addr} {H : Hp} {as : List LfX.Act} (h : AcW P w C H p as) (c : Cls K C) (o : OwnA K C) : TyX K H (.ref p) (.ref C) := by
  obtain ⟨dx, fs, h1, _⟩ := h.ins
  exact .base (.ins h1 c o.ha o.hn o.htk o.hm)
theorem lawSort_nd (as : List LfX.Act) : (lawSort as).Nodup := (lawSort_ok as [] .nil List.nodup_nil).2.1
theorem lawSort_cg {as bs : List LfX.Act} (wa : AllW as) (h : ∀ y, y ∈ as ↔ y ∈ bs) : lawSort as = lawSort bs := by
  have w1 : ∀ a ∈ lawSort as, HdOk a := fun a ha => (wa a ((lawSort_mem as a).mp ha)).hdok
  rw [← lawSort_eq w1 (lawSort_nd as) (lawSort_mem as), ← lawSort_eq (as := bs) w1 (lawSort_nd as) fun y => (lawSort_mem as y).trans (h y)]
theorem lawSort_w {as : List LfX.Act} (wa : AllW as) : AllW (lawSort as) := fun a ha => wa a ((lawSort_mem as a).mp ha)
theorem filt_w {as : List LfX.Act} {p : LfX.Act → Bool} (wa : AllW as) : AllW (as.filter p) := fun a ha => wa a (List.mem_filter.mp ha).1
theorem app_w {as bs : List LfX.Act} (wa : AllW as) (wb : AllW bs) : AllW (as ++ bs) := fun a ha => (List.mem_append.mp ha).elim (wa a) (wb a)
theorem mem_inB (as bs : List LfX.Act) (y : LfX.Act) : y ∈ as.filter (inB bs) ↔ y ∈ as ∧ y ∈ bs := by simp [List.mem_filter, inB]
theorem mem_outB (as bs : List LfX.Act) (y : LfX.Act) : y ∈ as.filter (outB bs) ↔ y ∈ as ∧ y ∉ bs := by simp [List.mem_filter, outB]
def actsD (as : List LfX.Act) : PyData := .tuple (as.map actD)
theorem actD_depth (a : LfX.Act) : (actD a).depth ≤ 2 := by
  obtain ⟨cb, hd, out⟩ := a
  cases hd <;> (show 1 ≤ 2; omega)
theorem depthAll_le : ∀ {ds : List PyData} {n : Nat}, (∀ d ∈ ds, d.depth ≤ n) → PyData.depthAll ds ≤ n
  | [], _, _ => Nat.zero_le _
  | d :: ds, n, h => by
    show max d.depth (PyData.depthAll ds) ≤ n
    exact Nat.max_le.mpr ⟨h d List.mem_cons_self, depthAll_le fun x hx => h x (List.mem_cons_of_mem _ hx)⟩
theorem actsD_shaped {as : List LfX.Act} (wa : AllW as) : SeqAt.shaped (actsD as) = true := by
  have e : (actsD as).depth ≤ 64 := by
    have := depthAll_le (ds := as.map actD) (n := 2) fun d hd => by
      obtain ⟨a, _, rfl⟩ := List.mem_map.mp hd
      exact actD_depth a
    show PyData.depthAll (as.map actD) + 1 ≤ 64
    omega
  show (_ && decide _) = true
  rw [show (actsD as).canLay0 = true from actsD_lay as fun a ha => (wa a ha).ok, decide_eq_true e]
  rfl
theorem actsD_eqv (as : List LfX.Act) : PyData.eqv (actsD as) (actsD as) = true := by
  show PyData.eqvAll (as.map actD) (as.map actD) = true
  induction as with
  | nil => rfl
  | cons a as ih =>
    show (PyData.eqv (actD a) (actD a) && PyData.eqvAll (as.map actD) (as.map actD)) = true
    rw [ih, actD_eqv, decide_eq_true rfl]
    rfl
theorem actsT_dp {K : PySem.W.Frag} {H : Hp} {r : Addr} {qs : List Addr} {as : List LfX.Act} (h : H r = some (.tup (qs.map V.ref))) (A : ActsAt H qs as) : Dp K H (.ref r) (actsD as) := .tup (SqT.of h) (acts_dp A)
theorem empty_iff {as : List LfX.Act} {ts : List Addr} {H : Hp} (A : ActsAt H ts as) : (ts.map V.ref).isEmpty = as.isEmpty := by
  have h := A.1
  cases ts <;> cases as
  · rfl
  · simp at h
  · simp at h
  · rfl
/-- within, and nothing left -/
theorem within_left (as bs : List LfX.Act) : ((lawSort as).all fun a => decide (a ∈ lawSort bs)) = (as.filter (outB bs)).isEmpty := by
  rw [Bool.eq_iff_iff, List.all_eq_true, List.isEmpty_iff, List.filter_eq_nil_iff]
  constructor
  · intro h a ha
    have := h a ((lawSort_mem as a).mpr ha)
    have := (lawSort_mem bs a).mp (of_decide_eq_true this)
    simp [outB, this]
  · intro h a ha
    have := h a ((lawSort_mem as a).mp ha)
    have hb : a ∈ bs := by simpa [outB] using this
    exact decide_eq_true ((lawSort_mem bs a).mpr hb)
def spRi : Sp := fun vs H Q _ => ∃ (la lb : Addr) (ts us : List Addr) (as bs : List LfX.Act), vs = [.ref la, .ref lb] ∧ H la = some (.lst (ts.map V.ref)) ∧ ActsAt H ts as ∧ H lb = some (.lst (us.map V.ref)) ∧ ActsAt H us bs ∧ AllW as ∧ AllW bs ∧ as.length ≤ 200 ∧ bs.length ≤ 200 ∧ ∀ H', Same H H' → Q (.bl true) H'
section
variable {P : Program} {w : World} {K : PySem.W.Frag} {mg : Str → Option Value} {base : Heap}
end
end K2
end
section
set_option Elab.async false
set_option maxRecDepth 100000
set_option linter.all false
/-! the law's order; x in a set, sets beside one another -/
namespace K2
open PySem L2 LfX PySem.Spec PyProof.Rows
abbrev nSoB : List Str := ["_law_acts", "_law_found", "_law_act", "_law_at", "_law_one"]
abbrev sQe : Stmt := inClass (top 11) 4
def spEqA (P : Program) (w : World) (K : PySem.W.Frag) (C : Addr) : Sp := fun vs H Q _ => ∃ (p : Addr) (y : V) (as : List LfX.Act), vs = [.ref p, y] ∧ AcW P w C H p as ∧ AllW as ∧ ((∃ (q : Addr) (bs : List LfX.Act), y = .ref q ∧ AcW P w C H q bs ∧ AllW bs ∧ Q (.bl (decide (as = bs))) H) ∨ (∃ t, TyX K H y t ∧ PySem.W.kitOne K t (.ref C) = some false ∧ Q (.bl false) H))
theorem actsD_eqv2 (as bs : List LfX.Act) : PyData.eqv (actsD as) (actsD bs) = decide (as = bs) := by
  show PyData.eqvAll (as.map actD) (bs.map actD) = _
  induction as generalizing bs with
  | nil => cases bs <;> simp [PyData.eqvAll]
  | cons a as ih =>
    cases bs with
    | nil => simp [PyData.eqvAll]
    | cons b bs =>
      show (PyData.eqv (actD a) (actD b) && PyData.eqvAll (as.map actD) (bs.map actD)) = _
      rw [ih, actD_eqv]
      by_cases h : a = b <;> simp [h]
section
variable {P : Program} {w : World} {K : PySem.W.Frag} {mg : Str → Option Value} {base : Heap}
theorem scQe : FnScope ["self", "other"] ["self", "other"] (defScope sQe) := ⟨rfl, rfl, rfl, by decide +kernel, rfl, by decide +kernel, by decide +kernel⟩
theorem ok_qe {f C : Addr} {fd : FuncData} (F : Fun K "__eq__" "Acts.__eq__" sQe f fd) (Y : TxA K mg C) (T : Bi mg) (O : OwnA K C) : FnOk P w K mg base CX0 1 f fd ["self", "other"] (spEqA P w K C) := by
  refine F.ok scQe (fun vs H Q E h => ?_) (fun cdv A outer s H vs Q E hr h => ?_)
  · obtain ⟨p, x, as, rfl, _⟩ := h
    rfl
  · obtain ⟨p, x, as, rfl, aw, wa, k⟩ := h
    refine ⟨_, pss_one (ps_ret (pe_and (pe_callB call_isi (by rfl) T.isinstance (by decide +kernel) (pa_cons (pv 1) (pa_cons (pe_glob (v := .ref C) rfl Y.mgC rfl) pa_nil))) (pe_one (pe_cmpR (op_eqD hr.units) (pe_fld (pv 0) rfl) (pe_fld (pv 1) rfl) (nomark _))))), ?_⟩
    rcases k with ⟨q, bs, rfl, bw, wb, k⟩ | ⟨t, ht, hk, k⟩
    · refine ⟨_, rfl, _, _, _, _, true, rfl, .own C, bw.ty Y.cl O, kit_own C, _, rfl, ?_⟩
      obtain ⟨dx, d, r, xs, qs, h1, h2, h3, h4, h5⟩ := aw
      obtain ⟨dy, d', r', ys, qs', g1, g2, g3, g4, g5⟩ := bw
      refine iteT ⟨_, rfl, p, C, dx, _, _, rfl, h1, Y.cl, Y.nR, fldA_rows _ _, _, rfl, q, C, dy, _, _, rfl, g1, Y.cl, Y.nR, fldA_rows _ _, actsD as, actsD bs, actsT_dp h4 h5, actsT_dp g4 g5, actsD_shaped wa, actsD_shaped wb, ?_⟩
      rw [actsD_eqv2]
      exact k
    · exact ⟨_, rfl, _, _, _, _, false, rfl, .own C, ht, hk, _, rfl, iteF k⟩
end
end K2
end
section
set_option Elab.async false
set_option maxRecDepth 100000
set_option linter.all false
/-! sorted(t, key=f) of a tuple, f a def whose keys may hold lists -/
namespace LfX
open PySem PySem.W PySem.Calls PySem.Spec PyProof.Rows L2
section
variable {prog : Program} {w : World} {A : Around} {E : Value → Shared → Prop} {s : Shared}
theorem collect_tup {l : Addr} {vs : List Value} {Q : List Value → Shared → Prop} (hl : IsTup s.heap l vs.toArray)
    (h : Q vs { s with heap := (s.heap.push (seqObj "list" #[] 0)).update s.heap.objs.size (Obj.mapSeq (· ++ vs.toArray)) }) (hsz : vs.length ≤ sizeLine := by size_fits) :
    wpAny (model prog w) A (collect (.ref l)) Q E s := by
  obtain ⟨o, ho, hc, n, hd⟩ := id hl
  unfold collect
  refine wpAny_bind (wpAny_runValue (codeAny_builtin entry_proto_collect' ?_))
  show wpAny _ _ (do again (.builtin "list.__iadd__" ⟨[← newList [], .ref l], []⟩)) _ _ s
  refine wpAny_bind (wpAny_newList (wpAny_pure ⟨Code.quiet_builtin _ (by decide +kernel), codeAny_builtin entry_list_iadd' ?_⟩))
  show wpAny _ _ (Builtin.List.listExtendWith (.ref s.heap.objs.size) (.ref l) (.ref s.heap.objs.size)) _ _ { s with heap := s.heap.push (seqObj "list" #[] 0) }
  unfold Builtin.List.listExtendWith
  have ho' : (s.heap.push (seqObj "list" #[] 0)).get? l = some o := Heap.get?_push_of_some _ ho
  refine wpAny_bind (wpAny_typeOf (T := "tuple") ⟨o, ho', hc⟩ ?_)
  have ht : (Value.type "tuple" == Value.type "tuple") = true := by rfl
  rw [if_pos (by rw [ht]; simp)]
  refine wpAny_bind (listItems_at ho' hd ?_)
  refine wpAny_bind (listItems_at (xs := #[]) (n := 0) (Heap.get?_push_size _ rfl) rfl ?_)
  rw [if_neg (by simp)]
  refine wpAny_bind (listUpdate_at (xs := #[]) (n := 0) (Heap.get?_push_size _ rfl) rfl ?_ (Nat.zero_le _) (by show (#[] ++ vs.toArray).size ≤ sizeLine + 1; simp only [Array.size_append, List.size_toArray, List.length_nil]; omega))
  refine wpAny_pure ?_
  show wpAny (model prog w) A (do
      let o ← load s.heap.objs.size
      match o.data with
      | .seq xs _ => pure xs.toList
      | _ => unsupported "internal:collect") Q E { s with heap := (s.heap.push (seqObj "list" #[] 0)).update s.heap.objs.size (Obj.mapSeq (· ++ vs.toArray)) }
  refine wpAny_bind (wpAny_load (get?_update_seq (Heap.get?_push_size _ rfl) _) ?_)
  show wpAny _ _ (pure ((#[] : Array Value) ++ vs.toArray).toList) Q E _
  rw [show ((#[] : Array Value) ++ vs.toArray).toList = vs by simp]
  exact wpAny_pure h
theorem sorted_of_sortT {l : Addr} {vs : List Value} {kw : List (Str × Value)} {Q : Value → Shared → Prop} (hl : IsTup s.heap l vs.toArray) (hL : vs.length ≤ sizeLine) (ha1 : argsOk "sorted" ⟨[.ref l], kw⟩) (ha2 : ∀ x, argsOk "list.sort" ⟨[.ref x], kw⟩)
    (body : ∀ E' : Value → Shared → Prop, wpAny (model prog w) A.in1.in1 (Builtin.«list.sort» ⟨[.ref (s.heap.objs.size + 1)], kw⟩) (fun f s' => f = .done (.ret .none) ∧ Q (.ref (s.heap.objs.size + 1)) s') E' { s with heap := copyHeap s.heap vs }) :
    wpAny (model prog w) A (call (.builtin "sorted") [.ref l] kw) Q E s := by
  refine call_function_entry_kw kind_sorted plain_sorted entry_sorted ha1 ?_
  unfold Builtin.«sorted»
  refine wpAny_bind (m := checkCount "sorted" 1 1 _) (wpAny_pure ?_)
  refine wpAny_bind (collect_tup hl ?_ hL)
  refine wpAny_bind (wpAny_newList ?_ hL)
  have hsz : ((s.heap.push (seqObj "list" #[] 0)).update s.heap.objs.size (Obj.mapSeq (· ++ vs.toArray))).objs.size = s.heap.objs.size + 1 := by
    rw [Heap.size_update, size_push']
  show wpAny _ _ _ _ _ { s with heap := copyHeap s.heap vs }
  rw [hsz]
  refine wpAny_bind (wpAny_holding (wpAny_call_entry_kw slot_list_sort ⟨_, copyHeap_at s.heap vs, rfl⟩ entry_list_sort ?body (ha2 _)))
  case body =>
    show wpAny (model prog w) A.in1.in1 (Builtin.«list.sort» ⟨[.ref (s.heap.objs.size + 1)], kw⟩) _ _ _
    refine wpAny_mono (body _) (fun f s' hf => ?_) fun _ _ e => e
    obtain ⟨rfl, hq⟩ := hf
    exact ⟨_, rfl, wpAny_pure ⟨_, rfl, hq⟩⟩
end
/-- all but two objects stay -/
def St2 (a0 b0 : Addr) (H H2 : Hp) : Prop := ∀ b o, b ≠ a0 → b ≠ b0 → H b = some o → H2 b = some o
def rSortedG (K : PySem.W.Frag) (f : Addr) (sp : Sp) : List V → List V → Hp → VK → Prop := fun xs zs H Q => ∃ (l : Addr) (vs : List V) (kz : List PyData), xs = [.ref l] ∧ zs = [.ref f] ∧ SqT K H l vs ∧ kz.length = vs.length ∧ AllAlike kz ∧ Sortable kz ∧ (∀ d ∈ kz, d.depth ≤ 8) ∧
  (∀ (i : Nat) (v : V) (d : PyData), vs[i]? = some v → kz[i]? = some d → ∀ H', AllS H H' → sp [v] H' (fun kv H'' => AllS H' H'' ∧ (∃ q, kv = .ref q) ∧ ∀ a0 b0, H' a0 ≠ none → H' b0 ≠ none → ∀ H2, St2 a0 b0 H'' H2 → Dp K H2 kv d) (fun _ _ _ => False)) ∧
  ∀ p H', AllS H H' → H p = none → H' p = some (.lst (sortedBy vs kz)) → Q (.ref p) H'
section
variable {X : Cx} {k : Nat} {f : Addr} {fd : FuncData} {ps : List Str} {sp : Sp}
theorem cr_sortedG (F : FnOk X.prog X.w X.K X.mg X.base CX0 k f fd ps sp) (hr : Room (k + 2) X.A) (hb : Binds X.K fd ps []) : CallRK X (.builtin "sorted") [Str.ofString "key"] (rSortedG X.K f sp) := by
  intro pins s σ H xs zs us ws Q I r rz h
  obtain ⟨l, vs, kz, rfl, rfl, hs, hlen, hal, hsk, hdp, hsp, hQ⟩ := h
  obtain rfl := Vals.ref1 r
  obtain ⟨w1, rfl, e1⟩ := vals1 rz
  obtain rfl : w1 = Value.ref f := e1
  obtain ⟨its, rv, hl, hz⟩ := I.tuple hs
  have il : its.length = vs.length := rv.length.symm
  refine sorted_of_sortT hl (by omega) (PyProof.Rows.ksk_s1 _ _) (fun _ => PyProof.Rows.ksk_l1 _ _) fun E' => ?_
  show wpAny _ _ (Builtin.«list.sort» ⟨[.ref (s.heap.objs.size + 1)], [(Str.ofString "key", .ref f)]⟩) _ _ _
  rw [ksk_t1]
  obtain ⟨a, ea⟩ : ∃ a, a = s.heap.objs.size + 1 := ⟨_, rfl⟩
  rw [← ea]
  have hoa : (copyHeap s.heap its).get? a = some (seqObj "list" its.toArray 0) := by rw [ea]; exact copyHeap_at _ _
  have Ha : H a = none := I.hok.fresh (by rw [ea]; exact Nat.le_succ _)
  have I1 : Inv X pins σ (upd H a (.lst vs)) { s with heap := copyHeap s.heap its } := I.laid (t' := s.toks) (fun b o e => copyHeap_old e) (by rw [ea]; exact Nat.le_succ _) ⟨by omega, its, 0, rv, hoa⟩
  have hnf := I1.nofrz upd_same True.intro
  have hr2 : Room k X.A.in1.in1 := (hr.in1).in1
  have hkz : kz.length = its.length := by omega
  have x1 := Heap.SameBut.update (copyHeap s.heap its) a (Obj.mapSeq fun _ => (#[] : Array Value))
  let J : Addr → Nat → List Value → Shared → Prop := fun kS e1 ks s' => ∃ (Hi : Hp) (qs : List Addr), Inv X pins σ Hi s' ∧ AllS H Hi ∧ Hi a = some (.frz (seqObj "list" #[] e1) (.lst [])) ∧ Hi kS = some (.lst (qs.map V.ref)) ∧ ks = qs.map Value.ref ∧ a ≠ kS ∧ H kS = none ∧
    ∀ (j : Nat) (q : Addr) (d : PyData), qs[j]? = some q → kz[j]? = some d → ∀ H2, St2 a kS Hi H2 → Dp X.K H2 (.ref q) d
  have kSat : ∀ {kS : Addr} {qs : List Addr} {Hi : Hp} {s' : Shared}, Inv X pins σ Hi s' → Hi kS = some (.lst (qs.map V.ref)) → ∃ e, s'.heap.get? kS = some (seqObj "list" (qs.map Value.ref).toArray e) := fun {kS qs Hi s'} Ii hk => by
    obtain ⟨_, us, n, r, g⟩ := (show ObjOk X.prog X.w Hi s'.heap kS (.lst (qs.map V.ref)) from Ii.hok _ _ hk)
    rw [refs_vals r] at g
    exact ⟨n, g⟩
  refine sg_tree (b := false) J hoa (by omega) (fun kS e1 ks s' hj => ?hJ) (fun e1 ho1 => ?start) (fun kS e1 ks v s' hv hj => ?turn) (fun kS e1 ks s' hl2 hj => ?fin)
  case hJ =>
    obtain ⟨Hi, qs, Ii, _, _, hk, rfl, _⟩ := hj
    exact kSat Ii hk
  case start =>
    have I2 : Inv X pins σ (upd (upd H a (.lst vs)) a (.lst [])) { s with heap := (copyHeap s.heap its).update a (Obj.mapSeq fun _ => (#[] : Array Value)) } := I1.write (t' := s.toks) (by rw [upd_same]; exact True.intro) (.inl rfl) (fun c u hc e => (x1.2 c hc).trans e) ⟨_, ho1⟩ ⟨Nat.zero_le _, [], e1, .nil, ho1⟩
    rw [upd_upd] at I2
    have I3 := I2.kept (h' := ((copyHeap s.heap its).update a (Obj.mapSeq fun _ => (#[] : Array Value))).push (seqObj "tuple" its.toArray 0)) (t' := s.toks) fun c u e => Heap.get?_push_of_some _ e
    obtain ⟨kS, ek⟩ : ∃ kS, kS = (((copyHeap s.heap its).update a (Obj.mapSeq fun _ => (#[] : Array Value))).push (seqObj "tuple" its.toArray 0)).objs.size := ⟨_, rfl⟩
    have HkS : (upd H a (.lst [])) kS = none := I3.hok.fresh (Nat.le_of_eq ek.symm)
    have I4 := I3.laid (h' := (((copyHeap s.heap its).update a (Obj.mapSeq fun _ => (#[] : Array Value))).push (seqObj "tuple" its.toArray 0)).push (seqObj "list" #[] 0)) (a := kS) (o := .lst []) (t' := s.toks) (fun c u e => Heap.get?_push_of_some _ e) (Nat.le_of_eq ek.symm) ⟨Nat.zero_le _, [], 0, .nil, by rw [ek]; exact Heap.get?_push_size _ rfl⟩
    rw [← ek]
    have nak : a ≠ kS := fun z => by rw [← z, upd_same] at HkS; cases HkS
    have oa : (upd (upd H a (.lst [])) kS (.lst [])) a = some (.lst []) := by rw [upd_ne nak, upd_same]
    obtain ⟨od, I5⟩ := I4.lock oa True.intro
    have god : ((((copyHeap s.heap its).update a (Obj.mapSeq fun _ => (#[] : Array Value))).push (seqObj "tuple" its.toArray 0)).push (seqObj "list" #[] 0)).get? a = some od := (show ObjOk X.prog X.w _ _ a (.frz od (.lst [])) from I5.hok a _ upd_same).1
    have gs := Heap.get?_push_of_some (seqObj "list" #[] 0) (Heap.get?_push_of_some (seqObj "tuple" its.toArray 0) ho1)
    obtain rfl : od = seqObj "list" #[] e1 := Option.some.inj (god.symm.trans gs)
    rw [upd_ne nak.symm] at HkS
    refine ⟨_, [], I5, fun b o e => ?_, upd_same, by rw [upd_ne nak.symm, upd_same]; rfl, rfl, nak, HkS, fun j q d e => by simp at e⟩
    rw [upd_ne (ne_of_none e Ha), upd_ne (ne_of_none e HkS), upd_ne (ne_of_none e Ha)]
    exact e
  case turn =>
    obtain ⟨Hi, qs, Ii, sm, ha, hk, rfl, nak, HkS, hd⟩ := hj
    rw [List.length_map] at hv
    have hlt : qs.length < its.length := (List.getElem?_eq_some_iff.mp hv).1
    have hvv : vs[qs.length]? = some vs[qs.length] := List.getElem?_eq_getElem (by omega)
    have hdd : kz[qs.length]? = some kz[qs.length] := List.getElem?_eq_getElem (by omega)
    have rvv : RelV vs[qs.length] v := vals_get rv hvv hv
    have sp1 := hsp _ _ _ hvv hdd Hi sm
    have l1 : ([v] : List Value).length = ps.length := by have := F.len _ _ _ _ sp1; simpa using this
    have hb1 := hb s' [v] Ii.kIn (by simpa using l1)
    rw [List.append_nil] at hb1
    refine wpAny_call (codeAny_mono (F.run X.A.in1.in1 X.stack s' Hi ⟨[v], []⟩ [v] [vs[qs.length]] _ _ hr2 (Ii.env0.in1).in1 hb1 (.cons rvv .nil) sp1) fun y z hq => ?_)
    cases y with
    | error e => exact hq.elim
    | ok fl =>
      cases fl with
      | next => exact hq.elim
      | brk => exact hq.elim
      | cont => exact hq.elim
      | ret u =>
        obtain ⟨kv, H2, I2, ru, sm2, ⟨q, rfl⟩, dq⟩ := Ii.after hq
        obtain rfl : u = Value.ref q := ru
        have hk2 := sm2 _ _ hk
        refine ⟨kSat I2 hk2, fun h' c sb g => ?_⟩
        have eq1 : qs.map Value.ref ++ [Value.ref q] = (qs ++ [q]).map Value.ref := by rw [List.map_append]; rfl
        rw [eq1] at g ⊢
        have I3 := I2.write (h' := h') (x := kS) (o := .lst ((qs ++ [q]).map V.ref)) (t' := z.toks) (by rw [hk2]; exact True.intro) (.inl rfl) (fun b u hb e => (sb.2 b hb).trans e) ⟨_, g⟩ ⟨by rw [List.length_map, List.length_append]; show _ + 1 ≤ _; omega, (qs ++ [q]).map Value.ref, c, vals_refs _, g⟩
        refine ⟨_, qs ++ [q], I3, fun b o e => ?_, by rw [upd_ne nak]; exact sm2 _ _ ha, upd_same, rfl, nak, HkS, fun j q' d e1 e2 H3 t3 => ?_⟩
        · rw [upd_ne (ne_of_none e HkS)]
          exact sm2 _ _ (sm _ _ e)
        · have tt : St2 a kS H2 H3 := fun b o n1 n2 e => t3 b o n1 n2 (by rw [upd_ne n2]; exact e)
          by_cases hj : j < qs.length
          · rw [List.getElem?_append_left hj] at e1
            exact hd j q' d e1 e2 H3 fun b o n1 n2 e => tt b o n1 n2 (sm2 _ _ e)
          · rw [List.getElem?_append_right (by omega)] at e1
            have j0 : j - qs.length = 0 := by
              have := (List.getElem?_eq_some_iff.mp e1).1
              rw [List.length_singleton] at this
              omega
            rw [j0] at e1
            obtain rfl : q = q' := Option.some.inj e1
            obtain rfl : j = qs.length := by omega
            rw [hdd] at e2
            cases e2
            exact dq a kS (by rw [ha]; intro z; cases z) (by rw [hk]; intro z; cases z) H3 tt
  case fin =>
    obtain ⟨Hi, qs, Ii, sm, ha, hk, rfl, nak, HkS, hd⟩ := hj
    rw [List.length_map] at hl2
    obtain ⟨e, nk⟩ := kSat Ii hk
    have na : s'.heap.get? a = some (seqObj "list" #[] e1) := (show ObjOk X.prog X.w Hi s'.heap a (.frz (seqObj "list" #[] e1) (.lst [])) from Ii.hok _ _ ha).1
    have each : EachIs (fun v d => ∃ as, Reads s'.heap v d as) (qs.map Value.ref) kz := each_of (by rw [List.length_map]; omega) fun j v d h1 h2 => by
      rw [List.getElem?_map] at h1
      cases hq : qs[j]? with
      | none => rw [hq] at h1; cases h1
      | some q =>
        rw [hq] at h1
        cases h1
        exact Dp.reads Ii d (.ref q) (.ref q) (hd j q d hq h2 Hi fun b o _ _ e => e) rfl
    have hun := hr2.un
    refine sg_end (κ := dataKind s'.heap kz) (e := e) nk na nak.symm (SortsAt.data (s := s') each hal hsk fun d hdm => by have := hdp d hdm; omega) (by rw [List.length_map]; omega) (by omega) fun tk => ⟨rfl, ?_⟩
    have KO : KeyedOut false kz its (sortVals (dataKind s'.heap kz) false (qs.map Value.ref) its) := ⟨s'.heap, qs.map Value.ref, hal, rfl, each⟩
    have ezs : (vs.zip kz).map (·.2) = kz := List.map_snd_zip (by omega)
    have KO2 : KeyedOut false ((vs.zip kz).map (·.2)) its (sortVals (dataKind s'.heap kz) false (qs.map Value.ref) its) := by rw [ezs]; exact KO
    have ev := keyedOut_each (R := fun u (p : V × PyData) => RelV p.1 u) (·.2) KO2 (each_of (by rw [List.length_zip]; omega) fun j u p h1 h2 => by
      obtain ⟨g1, g2⟩ := List.getElem?_zip_eq_some.mp h2
      exact vals_get rv g1 h1)
    have vo : Vals (sortedBy vs kz) (sortVals (dataKind s'.heap kz) false (qs.map Value.ref) its) := each_vals ev
    have ol : (sortVals (dataKind s'.heap kz) false (qs.map Value.ref) its).length = its.length := sortVals_length false (by rw [List.length_map]; omega)
    generalize sortVals (dataKind s'.heap kz) false (qs.map Value.ref) its = out at vo ol ⊢
    have J1 := Ii.unlock ha hnf
    have x2 := Heap.SameBut.update s'.heap kS (Obj.mapSeq fun _ => (#[] : Array Value))
    obtain ⟨c2, hc2⟩ : ∃ c2, (s'.heap.update kS (Obj.mapSeq fun _ => (#[] : Array Value))).get? kS = some (seqObj "list" #[] c2) := ⟨_, get?_update_seq nk fun _ => #[]⟩
    have na2 : (s'.heap.update kS (Obj.mapSeq fun _ => (#[] : Array Value))).get? a = some (seqObj "list" #[] e1) := (x2.2 a nak).trans na
    have J2 := J1.write (h' := s'.heap.update kS (Obj.mapSeq fun _ => (#[] : Array Value))) (x := kS) (o := .lst []) (t' := tk) (by rw [upd_ne nak.symm, hk]; exact True.intro) (.inl rfl) (fun b u hb e => (x2.2 b hb).trans e) ⟨_, hc2⟩ ⟨Nat.zero_le _, [], c2, .nil, hc2⟩
    have x3 := Heap.SameBut.update (s'.heap.update kS (Obj.mapSeq fun _ => (#[] : Array Value))) a (Obj.mapSeq fun _ => out.toArray)
    obtain ⟨c3, hc3⟩ : ∃ c3, ((s'.heap.update kS (Obj.mapSeq fun _ => (#[] : Array Value))).update a (Obj.mapSeq fun _ => out.toArray)).get? a = some (seqObj "list" out.toArray c3) := ⟨_, get?_update_seq na2 fun _ => out.toArray⟩
    have J3 := J2.write (h' := (s'.heap.update kS (Obj.mapSeq fun _ => (#[] : Array Value))).update a (Obj.mapSeq fun _ => out.toArray)) (x := a) (o := .lst (sortedBy vs kz)) (t' := tk) (by rw [upd_ne nak, upd_same]; exact True.intro) (.inl rfl) (fun b u hb e => (x3.2 b hb).trans e) ⟨_, hc3⟩ ⟨by have := vo.length; omega, out, c3, vo, hc3⟩
    refine ⟨.ref a, _, J3, rfl, hQ a _ (fun b o e => ?_) Ha upd_same⟩
    rw [upd_ne (ne_of_none e Ha), upd_ne (ne_of_none e HkS), upd_ne (ne_of_none e Ha)]
    exact sm _ _ e
end
end LfX
end
section
set_option Elab.async false
set_option maxRecDepth 100000
set_option linter.all false
/-! dicts by flat tuples: {}, d[k], d[k] = v, len(d), k not in d -/
namespace LfX
open PySem PySem.W PySem.Calls PySem.Spec PyProof.Rows L2
def tDNewL (P : Program) (w : World) : TE := fun _ H Q => ∀ p, H p = none → (p == sysModules) = false → Q (.ref p) (upd H p (LfO P w p []))
def tLGet (P : Program) (w : World) (td ty : TE) : TE := fun σ H Q => td σ H fun x H1 => ty σ H1 fun y H2 => ∃ (d q : Addr) (ks : LKey) (xs : List LEnt) (pr : Addr × Value) (v : V), x = .ref d ∧ y = .ref q ∧ H2 q = some (.tup (ks.map leafV)) ∧ LDict P w H2 d xs ∧ atKey xs ks = some pr ∧ RelV v pr.2 ∧ Q v H2
def sLPut (P : Program) (w : World) (td ty tv : TE) : L2.TS := fun D σ H => tv σ H fun v H1 => td σ H1 fun x H2 => ty σ H2 fun y H3 => ∃ (d q : Addr) (ks : LKey) (xs : List LEnt), x = .ref d ∧ y = .ref q ∧ H3 q = some (.tup (ks.map leafV)) ∧ LDict P w H3 d xs ∧ xs.length < sizeLine ∧
  ∀ r, RelV v r → D.nx σ (upd H3 d (LfO P w d (storedH xs ks q r)))
def rLenL (P : Program) (w : World) : List V → Hp → VK → Prop := fun us H Q => ∃ (d : Addr) (xs : List LEnt), us = [.ref d] ∧ LDict P w H d xs ∧ Q (.int ((xs.length : Nat) : Int)) H
theorem lnoDict {P : Program} {w : World} {H : Hp} {h : Heap} {d : Addr} {xs : List LEnt} (D : LDict P w H d xs) (ok : HOk P w H h) : ∀ b, Value.ref d = .ref b → ∃ ob, h.get? b = some ob ∧ ob.dict = none := fun b q => by
  cases q
  obtain ⟨o, _, _, h1, h2, _⟩ := ldict_of D ok
  exact ⟨o, h1, h2.2.1⟩
section
variable {X : Cx} {o i value : Expr} {pos pos' : Pos} {td ty tv : TE}
theorem pe_dnewL : PE X (.Dict [] [] pos) (tDNewL X.prog X.w) := ⟨fun pins s σ H Q I h => by
  have sysD : (s.heap.objs.size == sysModules) = false := by
    have := I.big
    simp only [beq_eq_false_iff_ne, ne_eq]
    exact Nat.ne_of_gt this
  exact wpAny_Dict_empty ⟨.ref s.heap.objs.size, _, I.laid (a := s.heap.objs.size) (o := LfO X.prog X.w s.heap.objs.size []) (t' := s.toks) (fun _ _ q => Heap.get?_push_of_some _ q) (Nat.le_refl _) (lfo_new s.heap), rfl, h _ (I.hok.fresh (Nat.le_refl _)) sysD⟩⟩
theorem pe_lget (hu : X.A.units + 1 < cLine) (ho : PE X o td) (hi : PE X i ty) (hs : NoSl i) : PE X (.Subscript o i pos) (tLGet X.prog X.w td ty) := by
  refine ⟨fun pins s σ H Q I h => ?_⟩
  refine subD_of PySem.F.slot_dict_getitem.lookup hs (thn (ho.run pins s σ H _ I h) fun u s1 ⟨x, H1, I1, rx, q1⟩ => thn (hi.run pins s1 σ H1 _ I1 q1) fun iv s2 ⟨y, H2, I2, ry, d, q, ks, xs, pr, v, ex, ey, hq, D, hp, rv, q2⟩ => ?_)
  subst ex ey
  obtain rfl : u = Value.ref d := rx
  obtain rfl : iv = Value.ref q := ry
  have dd := ldict_of D I2.hok
  exact ⟨dd.typeIs, wpAny_getItem_heap (tupleKind_room_in1 hu) (lkey_of I2.hok hq) dd hp ⟨v, H2, I2.tok _, rv, q2⟩⟩
theorem ps_lput (hu : X.A.units + 1 < cLine) (ho : PE X o td) (hi : PE X i ty) (hv : PE X value tv) (hs : swapsWith value (some (.Subscript o i pos')) pos.line X.env = pure false) :
    PS X (.Assign [.Subscript o i pos'] value pos) (sLPut X.prog X.w td ty tv) := by
  refine ⟨fun pins s σ H D I h => ?_⟩
  refine wpAny_Assign_Subscript (thn (hv.run pins s σ H _ I h) fun r s1 ⟨v, H1, I1, rv, q1⟩ => thn (ho.run pins s1 σ H1 _ I1 q1) fun u s2 ⟨x, H2, I2, rx, q2⟩ => thn (hi.run pins s2 σ H2 _ I2 q2) fun iv s3 ⟨y, H3, I3, ry, d, q, ks, xs, ex, ey, hq, LD, hz, q3⟩ => ?_) hs
  subst ex ey
  obtain rfl : u = Value.ref d := rx
  obtain rfl : iv = Value.ref q := ry
  refine wpAny_setItem_heap (hsz := Nat.le_of_lt hz) (knd := tupleKind (PySem.leafKind X.prog X.w)) (tupleKind_room_in1 hu) (lkey_of I3.hok hq) (ldict_of LD I3.hok) fun h' dd hs' => ?_
  have he : ∃ q, h'.get? d = some q := let ⟨q, _, _, hq, _⟩ := dd; ⟨q, hq⟩
  exact ⟨σ, _, d_write I3 (by rw [LD.at_]; exact True.intro) hs' he (lfo_ok dd), q3 r rv⟩
theorem call_len_L : CallR X (.builtin "len") (rLenL X.prog X.w) := by
  intro pins s σ H xs us Q I r h
  obtain ⟨d, es, rfl, D, q⟩ := h
  obtain ⟨u, rfl, rx⟩ := vals1 r
  obtain rfl : u = .ref d := rx
  refine call_len_dictH D.sys (ldict_of D I.hok) (by have := D.le; rw [sizeLine_eq] at this; omega) ?_
  exact ⟨.int ((es.length : Nat) : Int), H, I.tok _, ⟨_, rfl⟩, q⟩
theorem op_ninL (hu : X.A.units + 1 < cLine) : OpR X (compareOp .NotIn) (rInL X.prog X.w true) := by
  intro pins s σ H x y v u Q I rx ry h
  obtain ⟨q, d, ks, xs, rfl, rfl, hq, D, k⟩ := h
  obtain rfl : v = Value.ref q := rx
  obtain rfl : u = Value.ref d := ry
  refine PyProof.Rows.wpAny_notIn_heap (tupleKind_room_in1 hu) (lkey_of I.hok hq) D.sys (ldict_of D I.hok) ?_
  refine ⟨.bl _, H, I.tok _, rfl, ?_⟩
  rw [atKey_mem]
  exact k
end
end LfX
end
section
set_option Elab.async false
set_option maxRecDepth 100000
set_option linter.all false
/-! sets of acts in their order; the least ones -/
namespace LfX
open PySem PySem.W PySem.Calls PySem.Spec PyProof.Rows L2
abbrev ASet := List Act
def setKey (c : ASet) : PyData := .tuple [.int (c.length : Int), .list (c.map actKey)]
theorem alikeAll_keys : ∀ c d : ASet, alikeAll (c.map actKey) (d.map actKey) = true
  | [], _ => by simp [alikeAll]
  | _ :: _, [] => by simp [alikeAll]
  | a :: c, b :: d => by
    show (alike (actKey a) (actKey b) && alikeAll (c.map actKey) (d.map actKey)) = true
    rw [alikeAll_keys c d]
    rfl
theorem sets_alike (cs : List ASet) : AllAlike (cs.map setKey) := by
  intro d hd d' hd'
  obtain ⟨a, _, rfl⟩ := List.mem_map.mp hd
  obtain ⟨b, _, rfl⟩ := List.mem_map.mp hd'
  simp only [setKey, alike, alikeAll, alikeAll_keys, Bool.and_true]
theorem sets_sortable (cs : List ASet) : Sortable (cs.map setKey) := .inl fun d hd => by
  obtain ⟨a, _, rfl⟩ := List.mem_map.mp hd
  exact ⟨_, _, rfl⟩
theorem keys_depth : ∀ c : ASet, PyData.depthAll (c.map actKey) ≤ 1
  | [] => Nat.zero_le _
  | a :: c => Nat.max_le.mpr ⟨Nat.le_refl 1, keys_depth c⟩
theorem sets_depth (cs : List ASet) : ∀ d ∈ cs.map setKey, d.depth ≤ 8 := fun d hd => by
  obtain ⟨a, _, rfl⟩ := List.mem_map.mp hd
  have := keys_depth a
  show max 0 (max (PyData.depthAll (a.map actKey) + 1) 0) + 1 ≤ 8
  omega
def toksC (c : ASet) : List (Int ⊕ List Nat) := keyToks (setKey c)
theorem toksC_eq (c : ASet) : toksC c = .inl 1 :: .inl (c.length : Int) :: .inl 1 :: (keyToksAll (c.map actKey) ++ [.inl 0]) := rfl
theorem toksAll_inj : ∀ {c d : ASet}, (∀ a ∈ c, HdOk a) → (∀ a ∈ d, HdOk a) → ∀ {r t : List (Int ⊕ List Nat)}, keyToksAll (c.map actKey) ++ r = keyToksAll (d.map actKey) ++ t → c = d
  | [], [], _, _, _, _, _ => rfl
  | [], b :: d, _, _, r, t, h => by
    have h : (Sum.inl 0 : Int ⊕ List Nat) :: r = .inl 1 :: (keyToks (actKey b) ++ keyToksAll (d.map actKey) ++ t) := h
    injection h with h1 _
    cases h1
  | a :: c, [], _, _, r, t, h => by
    have h : .inl 1 :: (keyToks (actKey a) ++ keyToksAll (c.map actKey) ++ r) = (Sum.inl 0 : Int ⊕ List Nat) :: t := h
    injection h with h1 _
    cases h1
  | a :: c, b :: d, hc, hd, r, t, h => by
    have h : .inl 1 :: ((keyToks (actKey a) ++ keyToksAll (c.map actKey)) ++ r) = (Sum.inl 1 : Int ⊕ List Nat) :: ((keyToks (actKey b) ++ keyToksAll (d.map actKey)) ++ t) := h
    injection h with _ h
    rw [List.append_assoc, List.append_assoc] at h
    have la : (keyToks (actKey a)).length = (keyToks (actKey b)).length := rfl
    obtain ⟨e1, e2⟩ := List.append_inj h la
    have ea : a = b := toksA_inj (hc a List.mem_cons_self) (hd b List.mem_cons_self) e1
    rw [ea, toksAll_inj (fun x hx => hc x (List.mem_cons_of_mem _ hx)) (fun x hx => hd x (List.mem_cons_of_mem _ hx)) e2]
def leC (c d : ASet) : Prop := dataLe false setKey c d = true
theorem leC_def (c d : ASet) : leC c d ↔ lexLt itemOrd (toksC d) (toksC c) = false := by
  show (!lexLt itemOrd (toksC d) (toksC c)) = true ↔ _
  simp
theorem leC_trans {a b c : ASet} (h1 : leC a b) (h2 : leC b c) : leC a c := (sortLe_total (listOrd itemOrd) false fun b : ASet => keyToks (setKey b)).trans a b c h1 h2
abbrev OkS (c : ASet) : Prop := ∀ a ∈ c, HdOk a
theorem leC_anti {c d : ASet} (hc : OkS c) (hd : OkS d) (h1 : leC c d) (h2 : leC d c) : c = d := by
  have e := lex_total (O := itemOrd) _ _ ((leC_def d c).mp h2) ((leC_def c d).mp h1)
  have e : toksC c = toksC d := e
  rw [toksC_eq, toksC_eq] at e
  simp only [List.cons.injEq, true_and] at e
  exact toksAll_inj hc hd e.2
theorem leC_len {c d : ASet} (h : leC c d) : c.length ≤ d.length := by
  refine Classical.byContradiction fun n => ?_
  have h := (leC_def c d).mp h
  rw [toksC_eq, toksC_eq, lex_self, lex_diff (O := itemOrd) (by intro e; injection e with e; omega)] at h
  have : decide ((d.length : Int) < (c.length : Int)) = true := decide_eq_true (by omega)
  have h2 : decide ((d.length : Int) < (c.length : Int)) = false := h
  rw [this] at h2
  cases h2
def sortC (cs : List ASet) : List ASet := cs.mergeSort (dataLe false setKey)
theorem sortC_perm (cs : List ASet) : (sortC cs).Perm cs := List.mergeSort_perm _ _
theorem sortC_pw (cs : List ASet) : (sortC cs).Pairwise leC := by
  have T := sortLe_total (listOrd itemOrd) false fun b : ASet => keyToks (setKey b)
  exact List.pairwise_mergeSort (fun a b c h1 h2 => T.trans a b c h1 h2) (fun a b => by simpa using T.total a b) cs
/-- all of c is in d -/
def SubS (c d : ASet) : Prop := ∀ a ∈ c, a ∈ d
instance (c d : ASet) : Decidable (SubS c d) := inferInstanceAs (Decidable (∀ a ∈ c, a ∈ d))
theorem SubS.refl (c : ASet) : SubS c c := fun _ h => h
theorem SubS.trans {a b c : ASet} (h : SubS a b) (k : SubS b c) : SubS a c := fun x hx => k x (h x hx)
/-- a set stands as the program keeps it -/
structure Kept (c : ASet) : Prop where
  ok : OkS c
  pw : c.Pairwise leA
  nd : c.Nodup
theorem Kept.one {c d : ASet} (hc : Kept c) (hd : Kept d) (h1 : SubS c d) (h2 : SubS d c) : c = d :=
  ascA_one hc.ok ((List.perm_ext_iff_of_nodup hc.nd hd.nd).mpr fun a => ⟨h1 a, h2 a⟩) hc.pw hd.pw
theorem Kept.back {c d : ASet} (hc : Kept c) (hd : Kept d) (h1 : SubS c d) (l : d.length ≤ c.length) : c = d := by
  refine hc.one hd h1 fun a ha => Classical.byContradiction fun n => ?_
  have := hc.nd.length_le_of_subset (l₂ := d.erase a) fun x hx => (List.mem_erase_of_ne (fun (e : x = a) => n (by rw [← e]; exact hx))).mpr (h1 x hx)
  rw [List.length_erase_of_mem ha] at this
  have := List.length_pos_of_mem ha
  omega
/-- keep those that contain no kept one -/
def stepK (ks : List ASet) (c : ASet) : List ASet := if ks.any (fun k => decide (SubS k c)) then ks else ks ++ [c]
def keepAll (cs : List ASet) : List ASet := cs.foldl stepK []
def leastC (cs : List ASet) : List ASet := keepAll (sortC cs)
/-- some set of cs is in S -/
def Up (cs : List ASet) (S : ASet) : Prop := ∃ c ∈ cs, SubS c S
structure KeepOk (done : List ASet) (ks : List ASet) : Prop where
  mem : ∀ k ∈ ks, k ∈ done
  all : ∀ c ∈ done, ∃ k ∈ ks, SubS k c
  pw : ks.Pairwise leC
  anti : ∀ k1 ∈ ks, ∀ k2 ∈ ks, SubS k1 k2 → k1 = k2
  nd : ks.Nodup
theorem KeepOk.nil : KeepOk [] [] := ⟨fun _ h => h, fun _ h => by simp at h, .nil, fun _ h => by simp at h, .nil⟩
theorem KeepOk.step {done ks : List ASet} {c : ASet} (h : KeepOk done ks) (hk : ∀ d ∈ done, Kept d) (hc : Kept c) (hl : ∀ d ∈ done, leC d c) : KeepOk (done ++ [c]) (stepK ks c) := by
  unfold stepK
  split
  · rename_i q
    obtain ⟨k, hk1, hk2⟩ := List.any_eq_true.mp q
    refine ⟨fun k hk => List.mem_append_left _ (h.mem k hk), fun d hd => ?_, h.pw, h.anti, h.nd⟩
    rcases List.mem_append.mp hd with hd | hd
    · exact h.all d hd
    · rw [List.mem_singleton.mp hd]
      exact ⟨k, hk1, of_decide_eq_true hk2⟩
  · rename_i q
    have q : ∀ k ∈ ks, ¬ SubS k c := fun k hk s => q (List.any_eq_true.mpr ⟨k, hk, decide_eq_true s⟩)
    refine ⟨fun k hk => ?_, fun d hd => ?_, ?_, fun k1 h1 k2 h2 s => ?_, ?_⟩
    · rcases List.mem_append.mp hk with hk | hk
      · exact List.mem_append_left _ (h.mem k hk)
      · exact List.mem_append_right _ hk
    · rcases List.mem_append.mp hd with hd | hd
      · obtain ⟨k, a, b⟩ := h.all d hd
        exact ⟨k, List.mem_append_left _ a, b⟩
      · rw [List.mem_singleton.mp hd]
        exact ⟨c, List.mem_append_right _ (List.mem_singleton.mpr rfl), SubS.refl c⟩
    · refine List.pairwise_append.mpr ⟨h.pw, List.pairwise_singleton _ _, fun a ha b hb => ?_⟩
      rw [List.mem_singleton.mp hb]
      exact hl a (h.mem a ha)
    · rcases List.mem_append.mp h1 with h1 | h1
      · rcases List.mem_append.mp h2 with h2 | h2
        · exact h.anti k1 h1 k2 h2 s
        · rw [List.mem_singleton.mp h2] at s
          exact absurd s (q k1 h1)
      · rcases List.mem_append.mp h2 with h2 | h2
        · rw [List.mem_singleton.mp h1] at s ⊢
          exact hc.back (hk k2 (h.mem k2 h2)) s (leC_len (hl k2 (h.mem k2 h2)))
        · rw [List.mem_singleton.mp h1, List.mem_singleton.mp h2]
    · refine List.nodup_append.mpr ⟨h.nd, by simp, fun a ha b hb e => ?_⟩
      rw [List.mem_singleton.mp hb] at e
      exact q a ha (by rw [e]; exact SubS.refl c)
theorem keep_go : ∀ {cs done ks : List ASet}, KeepOk done ks → (∀ d ∈ done ++ cs, Kept d) → (done ++ cs).Pairwise leC → KeepOk (done ++ cs) (cs.foldl stepK ks)
  | [], done, ks, h, _, _ => by rw [List.append_nil]; exact h
  | c :: cs, done, ks, h, hk, pw => by
    have e : done ++ c :: cs = (done ++ [c]) ++ cs := by rw [List.append_assoc]; rfl
    rw [e] at hk pw ⊢
    refine keep_go (h.step (fun d hd => hk d (List.mem_append_left _ (List.mem_append_left _ hd))) (hk c (List.mem_append_left _ (List.mem_append_right _ (List.mem_singleton.mpr rfl)))) fun d hd => ?_) hk pw
    have p1 := (List.pairwise_append.mp pw).1
    exact (List.pairwise_append.mp p1).2.2 d hd c (List.mem_singleton.mpr rfl)
theorem least_ok {cs : List ASet} (h : ∀ c ∈ cs, Kept c) : KeepOk cs (leastC cs) := by
  have p := sortC_perm cs
  have q := keep_go (cs := sortC cs) KeepOk.nil (fun d hd => h d (p.mem_iff.mp (by simpa using hd))) (by simpa using sortC_pw cs)
  simp only [List.nil_append] at q
  exact ⟨fun k hk => p.mem_iff.mp (q.mem k hk), fun c hc => q.all c (p.mem_iff.mpr hc), q.pw, q.anti, q.nd⟩
theorem least_up {cs : List ASet} (h : ∀ c ∈ cs, Kept c) (S : ASet) : Up (leastC cs) S ↔ Up cs S := by
  have L := least_ok h
  constructor
  · rintro ⟨k, hk, s⟩
    exact ⟨k, L.mem k hk, s⟩
  · rintro ⟨c, hc, s⟩
    obtain ⟨k, hk, s2⟩ := L.all c hc
    exact ⟨k, hk, s2.trans s⟩
/-- what is least hangs on what is met alone -/
theorem least_one {cs ds : List ASet} (hc : ∀ c ∈ cs, Kept c) (hd : ∀ c ∈ ds, Kept c) (h : ∀ S, Up cs S ↔ Up ds S) : leastC cs = leastC ds := by
  have side : ∀ {cs ds : List ASet}, (∀ c ∈ cs, Kept c) → (∀ c ∈ ds, Kept c) → (∀ S, Up cs S ↔ Up ds S) → ∀ k ∈ leastC cs, k ∈ leastC ds := fun {cs ds} hc hd h k hk => by
    have L := least_ok hc
    have M := least_ok hd
    obtain ⟨d, hd1, s1⟩ := (least_up hd k).mpr ((h k).mp ⟨k, L.mem k hk, SubS.refl k⟩)
    obtain ⟨k', hk', s2⟩ := (least_up hc d).mpr ((h d).mpr ⟨d, M.mem d hd1, SubS.refl d⟩)
    have e : k' = k := L.anti k' hk' k hk (s2.trans s1)
    rw [e] at s2
    have : d = k := (hd d (M.mem d hd1)).one (hc k (L.mem k hk)) s1 s2
    rw [← this]
    exact hd1
  have L := least_ok hc
  have M := least_ok hd
  have p : (leastC cs).Perm (leastC ds) := (List.perm_ext_iff_of_nodup L.nd M.nd).mpr fun k => ⟨side hc hd h k, side hd hc (fun S => (h S).symm) k⟩
  have ok : ∀ k ∈ leastC cs, OkS k := fun k hk => (hc k (L.mem k hk)).ok
  generalize leastC cs = xs at p ok L
  generalize leastC ds = ys at p M
  have go : ∀ {xs ys : List ASet}, (∀ k ∈ xs, OkS k) → xs.Perm ys → xs.Pairwise leC → ys.Pairwise leC → xs = ys := by
    intro xs
    induction xs with
    | nil => intro ys _ p _ _; exact (List.nil_perm.mp p).symm
    | cons a as ih =>
      intro ys ok p h1 h2
      cases ys with
      | nil => exact absurd p.length_eq (by simp)
      | cons b bs =>
        obtain ⟨a1, a2⟩ := List.pairwise_cons.mp h1
        obtain ⟨b1, b2⟩ := List.pairwise_cons.mp h2
        have refl : ∀ x, leC x x := fun x => (leC_def x x).mpr (lex_irrefl _)
        have okb : OkS b := ok b (p.mem_iff.mpr List.mem_cons_self)
        have e : a = b := by
          refine leC_anti (ok a List.mem_cons_self) okb ?_ ?_
          · rcases List.mem_cons.mp (p.mem_iff.mpr (List.mem_cons_self (a := b) (l := bs))) with e | m
            · rw [e]; exact refl a
            · exact a1 b m
          · rcases List.mem_cons.mp (p.mem_iff.mp (List.mem_cons_self (a := a) (l := as))) with e | m
            · rw [e]; exact refl b
            · exact b1 a m
        subst e
        rw [ih (fun k hk => ok k (List.mem_cons_of_mem _ hk)) (List.Perm.cons_inv p) a2 b2]
  exact go ok p L.pw M.pw
end LfX
end
section
set_option Elab.async false
set_option maxRecDepth 100000
set_option linter.all false
/-! sets of acts as objects, in their order -/
namespace K2
open PySem PySem.W PySem.Calls L2 LfX PySem.Spec PyProof.Rows
abbrev sSq : Stmt := top 18
abbrev sIO : Stmt := top 17
abbrev nSq : List Str := ["one", "row"]
abbrev nIo : List Str := ["sets"]
/-- sets of acts stand at some places -/
def SetsAt (P : Program) (w : World) (C : Addr) (H : Hp) (os : List Addr) (cs : List ASet) : Prop := os.length = cs.length ∧ ∀ (j : Nat) (o : Addr) (c : ASet), os[j]? = some o → cs[j]? = some c → AcW P w C H o c
section
variable {P : Program} {w : World} {C : Addr} {H H' : Hp} {os os2 : List Addr} {cs cs2 : List ASet}
theorem SetsAt.same (h : SetsAt P w C H os cs) (s : Same H H') : SetsAt P w C H' os cs := ⟨h.1, fun j o c h1 h2 => (h.2 j o c h1 h2).same s⟩
theorem SetsAt.nil : SetsAt P w C H [] [] := ⟨rfl, fun j o c h => by simp at h⟩
theorem SetsAt.snoc {o : Addr} {c : ASet} (h : SetsAt P w C H os cs) (hq : AcW P w C H o c) : SetsAt P w C H (os ++ [o]) (cs ++ [c]) := by
  refine ⟨by simp [h.1], fun j q' a' h1 h2 => ?_⟩
  by_cases hj : j < os.length
  · rw [List.getElem?_append_left hj] at h1
    rw [List.getElem?_append_left (by rw [← h.1]; exact hj)] at h2
    exact h.2 j q' a' h1 h2
  · rw [List.getElem?_append_right (by omega)] at h1
    rw [List.getElem?_append_right (by have := h.1; omega), ← h.1] at h2
    have j0 : j - os.length = 0 := by
      have := (List.getElem?_eq_some_iff.mp h1).1
      rw [List.length_singleton] at this
      omega
    rw [j0] at h1 h2
    cases h1
    cases h2
    exact hq
theorem SetsAt.app (h : SetsAt P w C H os cs) (h2 : SetsAt P w C H os2 cs2) : SetsAt P w C H (os ++ os2) (cs ++ cs2) := by
  refine ⟨by simp [h.1, h2.1], fun j q a e1 e2 => ?_⟩
  by_cases hj : j < os.length
  · rw [List.getElem?_append_left hj] at e1
    rw [List.getElem?_append_left (by rw [← h.1]; exact hj)] at e2
    exact h.2 j q a e1 e2
  · rw [List.getElem?_append_right (by omega)] at e1
    rw [List.getElem?_append_right (by have := h.1; omega), ← h.1] at e2
    exact h2.2 _ q a e1 e2
theorem SetsAt.nth {i : Nat} {x : V} (h : SetsAt P w C H os cs) (hx : (os.map V.ref)[i]? = some x) : ∃ o c, x = .ref o ∧ cs[i]? = some c ∧ os[i]? = some o ∧ AcW P w C H o c ∧ i < cs.length := by
  rw [List.getElem?_map] at hx
  cases hq : os[i]? with
  | none => rw [hq] at hx; cases hx
  | some q =>
    rw [hq] at hx
    have hi : i < cs.length := by have := (List.getElem?_eq_some_iff.mp hq).1; rw [← h.1]; exact this
    exact ⟨q, cs[i], (Option.some.inj hx).symm, List.getElem?_eq_getElem hi, rfl, h.2 i q _ hq (List.getElem?_eq_getElem hi), hi⟩
end
theorem sorted_sets {P : Program} {w : World} {C : Addr} {os : List Addr} {cs : List ASet} (hl : os.length = cs.length) : ∃ os', sortedBy (os.map V.ref) (cs.map setKey) = os'.map V.ref ∧ ∀ H : Hp, SetsAt P w C H os cs → SetsAt P w C H os' (sortC cs) := by
  have ez : (os.map V.ref).zip (cs.map setKey) = (os.zip cs).map fun p => (V.ref p.1, setKey p.2) := by rw [List.zip_map]; rfl
  have e1 : ((os.zip cs).map fun p => (V.ref p.1, setKey p.2)).mergeSort (dataLe false (·.2)) = ((os.zip cs).mergeSort fun x y => dataLe false setKey x.2 y.2).map fun p => (V.ref p.1, setKey p.2) :=
    (List.map_mergeSort (r := fun x y : Addr × ASet => dataLe false setKey x.2 y.2) (s := dataLe false (·.2)) (f := fun p : Addr × ASet => (V.ref p.1, setKey p.2)) fun a _ b _ => rfl).symm
  have e2 : ((os.zip cs).mergeSort fun x y => dataLe false setKey x.2 y.2).map (·.2) = sortC cs := by
    have := List.map_mergeSort (l := os.zip cs) (r := fun x y : Addr × ASet => dataLe false setKey x.2 y.2) (s := dataLe false setKey) (f := fun p : Addr × ASet => p.2) fun a _ b _ => rfl
    rw [this, List.map_snd_zip (by omega)]
    rfl
  have mem : ∀ H : Hp, SetsAt P w C H os cs → ∀ p ∈ (os.zip cs).mergeSort (fun x y => dataLe false setKey x.2 y.2), AcW P w C H p.1 p.2 := fun H hS p hp => by
    obtain ⟨j, hj⟩ := List.mem_iff_getElem?.mp ((List.mergeSort_perm _ _).mem_iff.mp hp)
    obtain ⟨g1, g2⟩ := List.getElem?_zip_eq_some.mp hj
    exact hS.2 j p.1 p.2 g1 g2
  generalize (os.zip cs).mergeSort (fun x y => dataLe false setKey x.2 y.2) = L at e1 e2 mem
  refine ⟨L.map (·.1), ?_, fun H hS => ⟨?_, fun j q a h1 h2 => ?_⟩⟩
  · unfold sortedBy
    rw [ez, e1, List.map_map, List.map_map]
    rfl
  · rw [← e2, List.length_map, List.length_map]
  · rw [← e2] at h2
    rw [List.getElem?_map] at h1 h2
    cases hL : L[j]? with
    | none => rw [hL] at h1; cases h1
    | some p =>
      rw [hL] at h1 h2
      cases h1
      cases h2
      exact mem H hS p (List.mem_of_getElem? hL)
/-- a good set -/
structure GS (c : ASet) : Prop where
  w : AllW c
  k : Kept c
theorem lawSort_pw (as : List LfX.Act) : (lawSort as).Pairwise leA := (lawSort_ok as [] .nil List.nodup_nil).1
theorem GS.of {as : List LfX.Act} (h : AllW as) : GS (lawSort as) := ⟨lawSort_w h, fun a ha => (lawSort_w h a ha).hdok, lawSort_pw as, lawSort_nd as⟩
/-- keys of acts, all new -/
def KeysAt (H0 H : Hp) (ks : List Addr) (as : List LfX.Act) : Prop := ks.length = as.length ∧ ∀ (j : Nat) (k : Addr) (a : LfX.Act), ks[j]? = some k → as[j]? = some a → H k = some (.tup (keyVs a)) ∧ H0 k = none
theorem keysAt_snoc {H0 H H2 : Hp} {ks : List Addr} {as : List LfX.Act} {r0 : Addr} {b : LfX.Act} (h : KeysAt H0 H ks as) (m : ∀ c xs, H c = some (.tup xs) → H2 c = some (.tup xs)) (hr : H2 r0 = some (.tup (keyVs b))) (h0 : H0 r0 = none) : KeysAt H0 H2 (ks ++ [r0]) (as ++ [b]) := by
  refine ⟨by simp [h.1], fun j q' a' h1 h2 => ?_⟩
  by_cases hj : j < ks.length
  · rw [List.getElem?_append_left hj] at h1
    rw [List.getElem?_append_left (by rw [← h.1]; exact hj)] at h2
    obtain ⟨g1, g2⟩ := h.2 j q' a' h1 h2
    exact ⟨m _ _ g1, g2⟩
  · rw [List.getElem?_append_right (by omega)] at h1
    rw [List.getElem?_append_right (by have := h.1; omega), ← h.1] at h2
    have j0 : j - ks.length = 0 := by
      have := (List.getElem?_eq_some_iff.mp h1).1
      rw [List.length_singleton] at this
      omega
    rw [j0] at h1 h2
    cases h1
    cases h2
    exact ⟨hr, h0⟩
theorem keys_dp {K : PySem.W.Frag} {H0 H H2 : Hp} : ∀ {ks : List Addr} {as : List LfX.Act}, KeysAt H0 H ks as → (∀ b o, H0 b = none → H b = some o → H2 b = some o) → DpAll K H2 (ks.map V.ref) (as.map actKey)
  | [], [], _, _ => .nil
  | k :: ks, a :: as, h, m => by
    obtain ⟨h1, h2⟩ := h.2 0 k a rfl rfl
    refine .cons (.tup (SqT.of (m _ _ h2 h1)) (.cons (.str _) (.cons (.str _) (.cons (.bl _) (.cons (.str _) .nil))))) (keys_dp ⟨by have := h.1; simpa using this, fun j q a h1 h2 => h.2 (j + 1) q a h1 h2⟩ m)
  | [], _ :: _, h, _ => by have := h.1; simp at this
  | _ :: _, [], h, _ => by have := h.1; simp at this
def spSO (P : Program) (w : World) (C : Addr) : Sp := fun vs H Q _ => ∃ (o : Addr) (c : ASet), vs = [.ref o] ∧ AcW P w C H o c ∧ AllW c ∧ c.length ≤ 1000 ∧
  ∀ (q l : Addr) (ks : List Addr) (H' : Hp), Same H H' → H' q = some (.tup [.int (c.length : Int), .ref l]) → H q = none → H' l = some (.lst (ks.map V.ref)) → H l = none → KeysAt H H' ks c → Q (.ref q) H'
def spIO (P : Program) (w : World) (C : Addr) : Sp := fun vs H Q _ => ∃ (t : Addr) (os : List Addr) (cs : List ASet), vs = [.ref t] ∧ H t = some (.tup (os.map V.ref)) ∧ SetsAt P w C H os cs ∧ (∀ c ∈ cs, AllW c ∧ c.length ≤ 1000) ∧
  ∀ (l : Addr) (os' : List Addr) (H' : Hp), Same H H' → H l = none → H' l = some (.lst (os'.map V.ref)) → (∀ Hx, SetsAt P w C Hx os cs → SetsAt P w C Hx os' (sortC cs)) → Q (.ref l) H'
section
variable {P : Program} {w : World} {K : PySem.W.Frag} {mg : Str → Option Value} {base : Heap} {C fLn fAO fSO : Addr} {fdLn fdAO fdSO : FuncData}
theorem scSq : FnScope nSq ["one"] (defScope sSq) := ⟨rfl, rfl, rfl, by decide +kernel, rfl, by decide +kernel, by decide +kernel⟩
theorem scIo : FnScope nIo ["sets"] (defScope sIO) := ⟨rfl, rfl, rfl, by decide +kernel, rfl, by decide +kernel, by decide +kernel⟩
theorem ok_sO {f : Addr} {fd : FuncData} (F : Fun K "_set_order" "_set_order" sSq f fd) (T : Bi mg) (Y : TxA K mg C) (GLn : FnOk P w K mg base CX0 1 fLn fdLn ["self"] (spLnA P w C)) (bLn : Binds K fdLn ["self"] []) (hLn : PySem.W.findIn K (.ref C) "__len__" = some (some (.ref fLn))) (hLnf : PySem.W.isFn K (.ref fLn) = true)
    (AO : Df K mg "act_order" sAO fAO fdAO ["act"]) (GAO : FnOk P w K mg base CX0 1 fAO fdAO ["act"] spAO) : FnOk P w K mg base CX0 3 f fd ["one"] (spSO P w C) := by
  refine F.ok scSq (fun vs H Q E h => ?_) (fun cdv A outer s H vs Q E hr h => ?_)
  · obtain ⟨o, c, rfl, _⟩ := h
    rfl
  · obtain ⟨o, c, rfl, A0, wc, lc, k⟩ := h
    have hr2 : Room 2 _ := hr
    have hr1 : Room 1 _ := hr.mono (by decide)
    refine ⟨_, (pss_one (ps_ret (pe_tup (pa_cons (pe_callB (call_lenO GLn bLn pass0 hr2 hLn hLnf) (by rfl) T.len (by decide +kernel) (pa_cons (pv 0) pa_nil)) (pa_cons (pe_lc (own := [("row", 1)]) (g := gName 1) (tt := tYes) rfl scSq.nd (pi_tup (pe_fld (pv 0) rfl)) (blkOk_by (N := nSq) (sc := defScope sSq) (by decide +kernel)) (fun _ _ _ _ _ => pg_name (i := 1) scSq.nd rfl (Or.inl rfl)) (fun _ _ _ _ _ => pts_nil) (fun _ _ _ _ _ => pe_call GAO hr1 (by rfl) AO.m AO.F.kp AO.b .nil pass0 (pa_cons (pv 1) pa_nil))) pa_nil))))), ?_⟩
    obtain ⟨dx, d, r, xs, qs, h1, h2, h3, h4, h5⟩ := id A0
    refine ⟨_, rfl, o, dx, _, rfl, h1, o, c, rfl, A0, c.length, rfl, by omega, ?_⟩
    refine ⟨_, rfl, o, C, dx, _, _, rfl, h1, Y.cl, Y.nR, fldA_rows _ _, r, rfl, ⟨_, SqT.of h4⟩, fun D hD => ?_⟩
    refine lc_tup (K := K) (a := r) (xs := qs.map V.ref) (fun i Hc => ∃ ks : List Addr, Hc D = some (.lst (ks.map V.ref)) ∧ KeysAt H Hc ks (c.take i) ∧ Same H Hc) ?_ ?_ ?_ ?_
    · exact ⟨[], upd_same, ⟨rfl, fun j q a h => by simp at h⟩, (Same.refl H).put hD⟩
    · rintro i Hc _ ⟨_, _, _, sm⟩
      exact SqT.of (sm _ _ h4)
    · rintro i y Hc hy ⟨ks, hDl, KA, sm⟩
      obtain ⟨q, b, rfl, hb, hqi, hqb, hi⟩ := acts_nth h5 hy
      have wb := wc b (List.mem_of_getElem? hb)
      have et : c.take (i + 1) = c.take i ++ [b] := by rw [List.take_add_one, hb]; rfl
      have kl : ks.length ≤ 1000 := by rw [KA.1, List.length_take]; omega
      refine ⟨rfl, _, rfl, q, b, rfl, sm _ _ hqb, wb.hdw, fun r0 hr0 => ?_⟩
      have nD : D ≠ r0 := ne_of_none hDl hr0
      have r0H : H r0 = none := sm.free hr0
      have sr : Same Hc (upd Hc r0 (.tup (keyVs b))) := (Same.refl Hc).put hr0
      have er : (upd Hc r0 (.tup (keyVs b))) r0 = some (.tup (keyVs b)) := upd_same
      generalize upd Hc r0 (.tup (keyVs b)) = Hd at sr er ⊢
      have hDd := sr _ _ hDl
      refine ⟨_, hDd, by rw [List.length_map]; show _ < 16777216; omega, ks ++ [r0], by rw [upd_same, List.map_append]; rfl, ?_, (sm.trans sr).put hD⟩
      rw [et]
      have up1 : ∀ b xs, Hd b = some (.tup xs) → (upd Hd D (.lst (ks.map V.ref ++ [V.ref r0]))) b = some (.tup xs) := fun b xs e => by rw [upd_ne (ne_of e hDd (by intro z; cases z))]; exact e
      exact keysAt_snoc KA (fun b xs e => up1 _ _ (sr _ _ e)) (up1 _ _ er) r0H
    · rintro Hc ⟨ks, hDl, KA, sm⟩
      rw [List.length_map, h5.1, List.take_length] at KA
      refine ⟨(by show 2 ≤ sizeLine; decide), fun q hq => ?_⟩
      have sq : Same Hc (upd Hc q (.tup [.int (c.length : Int), .ref D])) := (Same.refl Hc).put hq
      refine k q D ks _ (sm.trans sq) upd_same (sm.free hq) (sq _ _ hDl) hD ⟨KA.1, fun j k a e1 e2 => ?_⟩
      obtain ⟨g1, g2⟩ := KA.2 j k a e1 e2
      exact ⟨sq _ _ g1, g2⟩
theorem ok_io {f : Addr} {fd : FuncData} (F : Fun K "in_order_of_sets" "in_order_of_sets" sIO f fd) (mSo : mg "sorted" = none) (SO : Df K mg "_set_order" sSq fSO fdSO ["one"]) (GSO : FnOk P w K mg base CX0 3 fSO fdSO ["one"] (spSO P w C)) : FnOk P w K mg base CX0 6 f fd ["sets"] (spIO P w C) := by
  refine F.ok scIo (fun vs H Q E h => ?_) (fun cdv A outer s H vs Q E hr h => ?_)
  · obtain ⟨t, os, cs, rfl, _⟩ := h
    rfl
  · obtain ⟨t, os, cs, rfl, ht, S, wc, k⟩ := h
    have hr5 : Room 5 _ := hr
    refine ⟨_, (pss_one (ps_ret (pe_callBK (cr_sortedG GSO hr5 SO.b) (by rfl) mSo (by decide +kernel) (pa_cons (pv 0) pa_nil) (pk_cons (pe_glob (v := .ref fSO) rfl SO.m rfl) pk_nil)))), ?_⟩
    refine ⟨_, rfl, t, os.map V.ref, cs.map setKey, rfl, rfl, SqT.of ht, by rw [List.length_map, List.length_map, S.1], sets_alike cs, sets_sortable cs, sets_depth cs, fun i v d hv hd H1 s1 => ?_, fun p H1 s1 hp1 hp => ?_⟩
    · obtain ⟨o, c, rfl, hc, ho, A0, hi⟩ := S.nth hv
      rw [List.getElem?_map, hc] at hd
      cases hd
      obtain ⟨w1, l1⟩ := wc c (List.mem_of_getElem? hc)
      refine ⟨o, c, rfl, A0.same s1, w1, l1, fun q l ks H2 s2 hq nq hl nl KA => ⟨s2, ⟨q, rfl⟩, fun a0 b0 ha0 hb0 H3 st => ?_⟩⟩
      have old : ∀ b, H1 b = none → b ≠ a0 ∧ b ≠ b0 := fun b hb => ⟨fun e => ha0 (e ▸ hb), fun e => hb0 (e ▸ hb)⟩
      have m : ∀ b o, H1 b = none → H2 b = some o → H3 b = some o := fun b o hb e => st b o (old b hb).1 (old b hb).2 e
      exact .tup (SqT.of (m _ _ nq hq)) (.cons (.int _) (.cons (.lst (SqL.of (m _ _ nl hl)) (keys_dp KA m)) .nil))
    · obtain ⟨os', eq', S'⟩ := sorted_sets (P := P) (w := w) (C := C) S.1
      rw [eq'] at hp
      exact k p os' H1 s1 hp1 hp S'
end
end K2
end
section
set_option Elab.async false
set_option maxRecDepth 100000
set_option linter.all false
/-! a bit for each act; masks -/
namespace K2
open PySem PySem.W PySem.Calls L2 LfX PySem.Spec PyProof.Rows
abbrev sBo : Stmt := top 20
abbrev sMk : Stmt := top 21
abbrev nBo : List Str := ["sets", "bits", "one", "row"]
abbrev nMk : List Str := ["one", "bits", "mask", "row"]
theorem bor_nat (a b : Nat) : Builtin.bitOr (a : Int) (b : Int) = ((a ||| b : Nat) : Int) := by
  rw [bitOr_nn (Int.natCast_nonneg a) (Int.natCast_nonneg b)]
  rfl
theorem band_nat (a b : Nat) : Builtin.bitAnd (a : Int) (b : Int) = ((a &&& b : Nat) : Int) := by simp [Builtin.bitAnd]
def maskN (bs c : ASet) : Nat := c.foldl (fun m a => m ||| 2 ^ bs.idxOf a) 0
theorem fold_bit (bs : ASet) : ∀ (c : ASet) (m j : Nat), (c.foldl (fun m a => m ||| 2 ^ bs.idxOf a) m).testBit j = (m.testBit j || c.any fun a => decide (bs.idxOf a = j))
  | [], m, j => by simp
  | a :: c, m, j => by
    rw [List.foldl_cons, fold_bit bs c, Nat.testBit_or, Nat.testBit_two_pow, List.any_cons, Bool.or_assoc]
theorem mask_bit (bs c : ASet) (j : Nat) : (maskN bs c).testBit j = c.any fun a => decide (bs.idxOf a = j) := by
  unfold maskN
  rw [fold_bit]
  simp
theorem idx_inj {bs : ASet} {a b : LfX.Act} (ha : a ∈ bs) (h : bs.idxOf b = bs.idxOf a) : b = a := by
  have l1 := List.idxOf_lt_length_of_mem ha
  have e1 : bs[bs.idxOf a]'l1 = a := List.getElem_idxOf l1
  have l2 : bs.idxOf b < bs.length := by rw [h]; exact l1
  have e2 : bs[bs.idxOf b]'l2 = b := List.getElem_idxOf l2
  rw [← e2, ← e1]
  simp only [h]
theorem mask_sub {bs c k : ASet} (hk : ∀ a ∈ k, a ∈ bs) : (maskN bs c &&& maskN bs k = maskN bs k) ↔ SubS k c := by
  constructor
  · intro h a ha
    have e := congrArg (fun m => m.testBit (bs.idxOf a)) h
    simp only [Nat.testBit_and, mask_bit] at e
    have k1 : (k.any fun x => decide (bs.idxOf x = bs.idxOf a)) = true := List.any_eq_true.mpr ⟨a, ha, decide_eq_true rfl⟩
    rw [k1, Bool.and_true] at e
    obtain ⟨b, hb, eb⟩ := List.any_eq_true.mp e
    rw [← idx_inj (hk a ha) (of_decide_eq_true eb)]
    exact hb
  · intro h
    apply Nat.eq_of_testBit_eq
    intro j
    rw [Nat.testBit_and, mask_bit, mask_bit]
    cases q : k.any fun a => decide (bs.idxOf a = j) with
    | false => simp
    | true =>
      obtain ⟨a, ha, ea⟩ := List.any_eq_true.mp q
      rw [Bool.and_true]
      exact List.any_eq_true.mpr ⟨a, h a ha, ea⟩
theorem mask_meet {bs c k : ASet} (hk : ∀ a ∈ k, a ∈ bs) : (maskN bs c &&& maskN bs k ≠ 0) ↔ ∃ a ∈ k, a ∈ c := by
  constructor
  · intro h
    obtain ⟨j, hj⟩ := Nat.exists_testBit_of_ne_zero h
    rw [Nat.testBit_and, mask_bit, mask_bit, Bool.and_eq_true] at hj
    obtain ⟨b, hb, eb⟩ := List.any_eq_true.mp hj.1
    obtain ⟨a, ha, ea⟩ := List.any_eq_true.mp hj.2
    have : b = a := idx_inj (hk a ha) ((of_decide_eq_true eb).trans (of_decide_eq_true ea).symm)
    exact ⟨a, ha, this ▸ hb⟩
  · rintro ⟨a, ha, hc⟩ e
    have := congrArg (fun m => m.testBit (bs.idxOf a)) e
    simp only [Nat.testBit_and, mask_bit, Nat.zero_testBit] at this
    rw [List.any_eq_true.mpr ⟨a, hc, decide_eq_true rfl⟩, List.any_eq_true.mpr ⟨a, ha, decide_eq_true rfl⟩] at this
    cases this
/-- a dict of the acts bs, each with its bit -/
def BitsAt (P : Program) (w : World) (H : Hp) (d : Addr) (bs : ASet) : Prop := ∃ xs : List LEnt, LDict P w H d xs ∧ Keys xs bs ∧ ∀ (j : Nat) (x : LEnt), xs[j]? = some x → ∃ t, x.2.2 = .int ((2 ^ j : Nat) : Int) t
theorem BitsAt.same {P : Program} {w : World} {H H' : Hp} {d : Addr} {bs : ASet} (h : BitsAt P w H d bs) (s : Same H H') : BitsAt P w H' d bs := by
  obtain ⟨xs, D, k, i⟩ := h
  exact ⟨xs, D.mono s, k, i⟩
theorem bit_at : ∀ {xs : List LEnt} {bs : ASet} {k0 : Nat} {a : LfX.Act}, xs.map (·.1) = bs.map actL → (∀ (j : Nat) (x : LEnt), xs[j]? = some x → ∃ t, x.2.2 = .int ((2 ^ (k0 + j) : Nat) : Int) t) → a ∈ bs →
    ∃ pr t, atKey xs (actL a) = some pr ∧ pr.2 = .int ((2 ^ (k0 + bs.idxOf a) : Nat) : Int) t
  | [], b :: bs, _, _, h, _, _ => by simp at h
  | x :: xs, [], _, _, _, _, h => by simp at h
  | [], [], _, _, _, _, h => by simp at h
  | x :: xs, b :: bs, k0, a, h, hi, ha => by
    rw [List.map_cons, List.map_cons] at h
    injection h with h1 h2
    by_cases e : b = a
    · subst e
      obtain ⟨t, ht⟩ := hi 0 x rfl
      refine ⟨x.2, t, ?_, ?_⟩
      · show ((x :: xs).find? fun y => decide (y.1 = actL b)).map (·.2) = some x.2
        rw [List.find?_cons, h1, decide_eq_true rfl]
        rfl
      · rw [List.idxOf_cons_self]
        exact ht
    · have ha2 : a ∈ bs := (List.mem_cons.mp ha).elim (fun z => absurd z.symm e) id
      obtain ⟨pr, t, g1, g2⟩ := bit_at (k0 := k0 + 1) h2 (fun j y hy => by
        obtain ⟨t, ht⟩ := hi (j + 1) y hy
        exact ⟨t, by rw [ht, show k0 + (j + 1) = k0 + 1 + j by omega]⟩) ha2
      refine ⟨pr, t, ?_, ?_⟩
      · show ((x :: xs).find? fun y => decide (y.1 = actL a)).map (·.2) = some pr
        rw [List.find?_cons, h1, decide_eq_false (fun z => e (actL_inj z))]
        exact g1
      · rw [g2, List.idxOf_cons, show (b == a) = false by simpa using e, cond_false, show k0 + 1 + bs.idxOf a = k0 + (bs.idxOf a + 1) by omega]
theorem BitsAt.get {P : Program} {w : World} {H : Hp} {d : Addr} {bs : ASet} {a : LfX.Act} (h : BitsAt P w H d bs) (ha : a ∈ bs) : ∃ xs pr, LDict P w H d xs ∧ atKey xs (actL a) = some pr ∧ RelV (.int ((2 ^ bs.idxOf a : Nat) : Int)) pr.2 := by
  obtain ⟨xs, D, k, i⟩ := h
  obtain ⟨pr, t, g1, g2⟩ := bit_at (k0 := 0) k.1 (fun j x hx => by rw [Nat.zero_add]; exact i j x hx) ha
  rw [Nat.zero_add] at g2
  exact ⟨xs, pr, D, g1, t, g2⟩
/-- in few acts -/
def InU (n : Nat) (cs : List ASet) : Prop := ∃ U : ASet, U.length ≤ n ∧ ∀ c ∈ cs, ∀ a ∈ c, a ∈ U
def spBo (P : Program) (w : World) (C : Addr) : Sp := fun vs H Q _ => ∃ (t : Addr) (os : List Addr) (cs : List ASet), vs = [.ref t] ∧ H t = some (.tup (os.map V.ref)) ∧ SetsAt P w C H os cs ∧ InU 60 cs ∧
  ∀ (d : Addr) (bs : ASet) (H' : Hp), Same H H' → H d = none → BitsAt P w H' d bs → (∀ a, a ∈ bs ↔ ∃ c ∈ cs, a ∈ c) → Q (.ref d) H'
def spMk (P : Program) (w : World) (C : Addr) : Sp := fun vs H Q _ => ∃ (o d : Addr) (c bs : ASet), vs = [.ref o, .ref d] ∧ AcW P w C H o c ∧ BitsAt P w H d bs ∧ (∀ a ∈ c, a ∈ bs) ∧ Q (.int ((maskN bs c : Nat) : Int)) H
section
variable {P : Program} {w : World} {K : PySem.W.Frag} {mg : Str → Option Value} {base : Heap} {C : Addr}
theorem scBo : FnScope nBo ["sets"] (defScope sBo) := ⟨rfl, rfl, rfl, by decide +kernel, rfl, by decide +kernel, by decide +kernel⟩
theorem scMk : FnScope nMk ["one", "bits"] (defScope sMk) := ⟨rfl, rfl, rfl, by decide +kernel, rfl, by decide +kernel, by decide +kernel⟩
theorem ok_mk {f : Addr} {fd : FuncData} (F : Fun K "_mask" "_mask" sMk f fd) (Y : TxA K mg C) : FnOk P w K mg base CX0 1 f fd ["one", "bits"] (spMk P w C) := by
  refine F.ok scMk (fun vs H Q E h => ?_) (fun cdv A outer s H vs Q E hr h => ?_)
  · obtain ⟨o, d, c, bs, rfl, _⟩ := h
    rfl
  · obtain ⟨o, d, c, bs, rfl, A0, B, hc, k⟩ := h
    have hu := hu_of hr
    refine ⟨_, (pss_cons (ps_set (i := 2) scMk.nd rfl (Or.inl rfl) pe_int)
      (pss_cons (ps_for PassesOwn.never rfl (pi_tup (pe_fld (pv 0) rfl)) (pg_name (i := 3) scMk.nd rfl (Or.inl rfl))
      (pss_one (ps_set (i := 2) scMk.nd rfl (Or.inl rfl) (pe_op op_or (pv 2) (pe_lget hu (pv 1) (pv 3) (fun _ _ => rfl))))))
      (pss_one (ps_ret (pv 2))))), ?_⟩
    obtain ⟨dx, d', r, xs, qs, h1, h2, h3, h4, h5⟩ := id A0
    refine ⟨_, rfl, o, C, dx, _, _, rfl, h1, Y.cl, Y.nR, fldA_rows _ _, r, rfl, ⟨_, SqT.of h4⟩, ?_⟩
    refine for_tup (K := K) (a := r) (xs := qs.map V.ref) (fun i σ Hc => ∃ v3 : Option V, Hc = H ∧ σ = [some (.ref o), some (.ref d), some (.int ((maskN bs (c.take i) : Nat) : Int)), v3]) ?_ ?_ ?_ ?_
    · exact ⟨_, rfl, rfl⟩
    · rintro i σ Hc _ ⟨v3, rfl, rfl⟩
      exact SqT.of h4
    · rintro i x σ Hc hx ⟨v3, rfl, rfl⟩
      obtain ⟨q, b, rfl, hb, hqi, hqb, hi⟩ := acts_nth h5 hx
      have et : c.take (i + 1) = c.take i ++ [b] := by rw [List.take_add_one, hb]; rfl
      obtain ⟨ys, pr, D, g1, g2⟩ := B.get (hc b (List.mem_of_getElem? hb))
      rw [← act_leaves] at hqb
      refine ⟨_, rfl, _, rfl, _, rfl, d, q, actL b, ys, pr, _, rfl, rfl, hqb, D, g1, g2, _, _, rfl, rfl, ?_⟩
      refine ⟨some (.ref q), rfl, ?_⟩
      have e : Builtin.bitOr ((maskN bs (c.take i) : Nat) : Int) ((2 ^ bs.idxOf b : Nat) : Int) = ((maskN bs (c.take (i + 1)) : Nat) : Int) := by
        rw [bor_nat, et]
        unfold maskN
        rw [List.foldl_append]
        rfl
      rw [← e]
      rfl
    · rintro σ Hc ⟨v3, rfl, rfl⟩
      rw [List.length_map, h5.1, List.take_length]
      exact ⟨_, rfl, k⟩
end
end K2
end
section
set_option Elab.async false
set_option maxRecDepth 100000
set_option linter.all false
/-! a bit for each act in some set -/
namespace K2
open PySem PySem.W PySem.Calls L2 LfX PySem.Spec PyProof.Rows
theorem pe_dnewLw {X : Cx} {pos : Pos} {P : Program} {w : World} (e1 : X.prog = P) (e2 : X.w = w) : PE X (.Dict [] [] pos) (tDNewL P w) := by
  subst e1 e2
  exact pe_dnewL
/-- the dict while it is made: its acts are those met so far -/
structure BitsM (P : Program) (w : World) (H : Hp) (d : Addr) (seen : ASet) : Prop where
  ex : ∃ (xs : List LEnt) (bs : ASet), LDict P w H d xs ∧ Keys xs bs ∧ (∀ (j : Nat) (x : LEnt), xs[j]? = some x → ∃ t, x.2.2 = .int ((2 ^ j : Nat) : Int) t) ∧ ∀ a, a ∈ bs ↔ a ∈ seen
theorem keys_len {xs : List LEnt} {bs : ASet} (h : Keys xs bs) : xs.length = bs.length := by have := congrArg List.length h.1; simpa using this
theorem BitsM.skip {P : Program} {w : World} {H : Hp} {d : Addr} {seen : ASet} {a : LfX.Act} (h : BitsM P w H d seen) (ha : a ∈ seen) : BitsM P w H d (seen ++ [a]) := by
  obtain ⟨xs, bs, D, k, i, m⟩ := h.ex
  refine ⟨xs, bs, D, k, i, fun b => ?_⟩
  rw [m b, List.mem_append, List.mem_singleton]
  exact ⟨.inl, fun q => q.elim id fun e => e ▸ ha⟩
theorem BitsM.eqv {P : Program} {w : World} {H : Hp} {d : Addr} {s1 s2 : ASet} (h : BitsM P w H d s1) (e : ∀ a, a ∈ s1 ↔ a ∈ s2) : BitsM P w H d s2 := by
  obtain ⟨xs, bs, D, k, i, m⟩ := h.ex
  exact ⟨xs, bs, D, k, i, fun a => (m a).trans (e a)⟩
section
variable {P : Program} {w : World} {K : PySem.W.Frag} {mg : Str → Option Value} {base : Heap} {C : Addr}
theorem ok_bo {f : Addr} {fd : FuncData} (F : Fun K "_bits_of" "_bits_of" sBo f fd) (Y : TxA K mg C) (T : Bi mg) : FnOk P w K mg base CX0 1 f fd ["sets"] (spBo P w C) := by
  refine F.ok scBo (fun vs H Q E h => ?_) (fun cdv A outer s H vs Q E hr h => ?_)
  · obtain ⟨t, os, cs, rfl, _⟩ := h
    rfl
  · obtain ⟨t, os, cs, rfl, ht, S, ⟨U, hU, hIn⟩, k⟩ := h
    have hu := hu_of hr
    refine ⟨_, (pss_cons (ps_set (i := 1) scBo.nd rfl (Or.inl rfl) (pe_dnewLw (P := P) (w := w) rfl rfl))
      (pss_cons (ps_for PassesOwn.never rfl (pi_tup (pv 0)) (pg_name (i := 2) scBo.nd rfl (Or.inl rfl))
      (pss_one (ps_for PassesOwn.never rfl (pi_tup (pe_fld (pv 2) rfl)) (pg_name (i := 3) scBo.nd rfl (Or.inl rfl))
        (pss_one (ps_if (pt_cmpR (op_ninL hu) (pv 3) (pv 1) rfl)
          (pss_one (ps_lput hu (pv 1) (pv 3) (pe_op op_shl pe_int (pe_callB call_len_L (by rfl) T.len (by decide +kernel) (pa_cons (pv 1) pa_nil))) rfl))
          pss_nil)))))
      (pss_one (ps_ret (pv 1))))), ?_⟩
    intro d hd hsys
    have s0 : Same H (upd H d (LfO P w d [])) := (Same.refl H).put hd
    have M0 : BitsM P w (upd H d (LfO P w d [])) d [] := ⟨[], [], ⟨upd_same, fun x hx => by simp at hx, hsys, Nat.zero_le _⟩, ⟨rfl, .nil⟩, fun j x h => by simp at h, fun a => Iff.rfl⟩
    generalize upd H d (LfO P w d []) = H0 at s0 M0 ⊢
    refine ⟨_, rfl, t, rfl, ⟨_, SqT.of (s0 _ _ ht)⟩, ?_⟩
    refine for_tup (K := K) (a := t) (xs := os.map V.ref) (fun i σ Hc => ∃ v2 v3 : Option V, σ = [some (.ref t), some (.ref d), v2, v3] ∧ BitsM P w Hc d (cs.take i).flatten ∧ Same H Hc) ?_ ?_ ?_ ?_
    · exact ⟨_, _, rfl, M0, s0⟩
    · rintro i σ Hc _ ⟨v2, v3, rfl, M, sm⟩
      exact SqT.of (sm _ _ ht)
    · rintro i x σ Hc hx ⟨v2, v3, rfl, M, sm⟩
      obtain ⟨o, c, rfl, hc, ho, A0, hi⟩ := S.nth hx
      have et : cs.take (i + 1) = cs.take i ++ [c] := by rw [List.take_add_one, hc]; rfl
      have cin := hIn c (List.mem_of_getElem? hc)
      obtain ⟨dx, d', r, ys, qs, h1, h2, h3, h4, h5⟩ := id A0
      refine ⟨_, rfl, o, C, dx, _, _, rfl, sm _ _ h1, Y.cl, Y.nR, fldA_rows _ _, r, rfl, ⟨_, SqT.of (sm _ _ h4)⟩, ?_⟩
      refine for_tup (K := K) (a := r) (xs := qs.map V.ref) (fun j σ Hd => ∃ v3 : Option V, σ = [some (.ref t), some (.ref d), some (.ref o), v3] ∧ BitsM P w Hd d ((cs.take i).flatten ++ c.take j) ∧ Same H Hd) ?_ ?_ ?_ ?_
      · exact ⟨_, rfl, M.eqv fun a => by simp, sm⟩
      · rintro j σ Hd _ ⟨v3, rfl, _, sd⟩
        exact SqT.of (sd _ _ h4)
      · rintro j x σ Hd hx ⟨v3, rfl, M, sd⟩
        obtain ⟨q, b, rfl, hb, hqi, hqb, hj⟩ := acts_nth h5 hx
        have et2 : c.take (j + 1) = c.take j ++ [b] := by rw [List.take_add_one, hb]; rfl
        have bU := cin b (List.mem_of_getElem? hb)
        obtain ⟨xs, bs, LD, KB, iv, mem⟩ := M.ex
        have hq := sd _ _ hqb
        have hq2 := hq
        rw [← act_leaves] at hq2
        have bl : bs.length ≤ 60 := Nat.le_trans (KB.2.length_le_of_subset fun a ha => by
          rcases List.mem_append.mp ((mem a).mp ha) with h | h
          · obtain ⟨c', hc', ha'⟩ := List.mem_flatten.mp h
            exact hIn c' (List.mem_of_mem_take hc') a ha'
          · exact cin a (List.mem_of_mem_take h)) hU
        have xl := keys_len KB
        refine ⟨_, rfl, _, rfl, q, d, actL b, xs, rfl, rfl, hq2, LD, _, rfl, ?_⟩
        rw [if_pos rfl]
        by_cases hin : b ∈ bs
        · rw [decide_eq_true ((KB.mem b).mpr hin)]
          refine iteF ⟨_, rfl, ?_, sd⟩
          rw [et2, ← List.append_assoc]
          exact M.skip ((mem b).mp hin)
        · rw [decide_eq_false fun z => hin ((KB.mem b).mp z)]
          refine iteT ?_
          have hz : xs.length < sizeLine := by rw [xl]; show _ < 16777216; omega
          refine ⟨_, rfl, d, xs, rfl, LD, _, _, rfl, rfl, ⟨by omega, by omega, by decide⟩, _, rfl, _, rfl, d, q, actL b, xs, rfl, rfl, hq2, LD, hz, fun r0 hr0 => ?_⟩
          obtain ⟨e1, LD2⟩ := LD.stored (q := q) (r := r0) hq2 hz fun z => hin ((KB.mem b).mp z)
          rw [e1]
          obtain ⟨tk, er⟩ := hr0
          refine ⟨_, rfl, ⟨_, bs ++ [b], LD2, ⟨by rw [List.map_append, List.map_append, KB.1]; rfl, List.nodup_append.mpr ⟨KB.2, by simp, fun x hx y hy e => ?_⟩⟩, fun m x hx => ?_, fun a => ?_⟩, fun z o' e => ?_⟩
          · rw [List.mem_singleton.mp hy] at e
            exact hin (e ▸ hx)
          · by_cases hm : m < xs.length
            · rw [List.getElem?_append_left hm] at hx
              exact iv m x hx
            · rw [List.getElem?_append_right (by omega)] at hx
              have m0 : m - xs.length = 0 := by
                have := (List.getElem?_eq_some_iff.mp hx).1
                rw [List.length_singleton] at this
                omega
              rw [m0] at hx
              cases hx
              refine ⟨tk, ?_⟩
              show r0 = _
              rw [er, show m = xs.length by omega]
              show Value.int (1 * 2 ^ ((xs.length : Int)).toNat) tk = _
              rw [Int.one_mul, Int.toNat_natCast]
              congr 1
          · rw [et2, ← List.append_assoc, List.mem_append, List.mem_append, mem a]
          · rw [upd_ne (ne_of_none e hd)]
            exact sd _ _ e
      · rintro σ Hd ⟨v3, rfl, M, sd⟩
        rw [List.length_map, h5.1, List.take_length] at M
        exact ⟨_, _, rfl, M.eqv fun a => by rw [et, List.flatten_append]; simp, sd⟩
    · rintro σ Hc ⟨v2, v3, rfl, M, sm⟩
      rw [List.length_map, S.1, List.take_length] at M
      obtain ⟨xs, bs, LD, KB, iv, mem⟩ := M.ex
      exact ⟨_, rfl, k d bs Hc sm hd ⟨xs, LD, KB, iv⟩ fun a => (mem a).trans List.mem_flatten⟩
end
end K2
end
section
set_option Elab.async false
set_option maxRecDepth 100000
set_option linter.all false
/-! the least sets -/
namespace K2
open PySem PySem.W PySem.Calls L2 LfX PySem.Spec PyProof.Rows
abbrev sLe : Stmt := top 19
abbrev nLe : List Str := ["sets", "bits", "kept", "masks", "together", "one", "mask", "other", "row"]
/-- the dict of all acts met: keys alone matter -/
structure TogM (P : Program) (w : World) (H : Hp) (d : Addr) (n : ASet) : Prop where
  ex : ∃ (xs : List LEnt) (bs : ASet), LDict P w H d xs ∧ Keys xs bs ∧ ∀ a ∈ bs, a ∈ n
theorem TogM.wrL {P : Program} {w : World} {H : Hp} {d a : Addr} {n : ASet} {xs : List V} {o : HO} (h : TogM P w H d n) (ne : a ≠ d) (ha : H a = some (.lst xs)) : TogM P w (upd H a o) d n := by
  obtain ⟨xs, bs, D, k, i⟩ := h.ex
  refine ⟨xs, bs, ⟨(upd_ne (Ne.symm ne)).trans D.at_, fun x hx => ?_, D.sys, D.le⟩, k, i⟩
  exact (upd_ne (ne_of (D.keys x hx) ha (by intro z; cases z))).trans (D.keys x hx)
def spLe (P : Program) (w : World) (C : Addr) : Sp := fun vs H Q _ => ∃ (t : Addr) (os : List Addr) (cs : List ASet), vs = [.ref t] ∧ H t = some (.tup (os.map V.ref)) ∧ SetsAt P w C H os cs ∧ InU 8 cs ∧ (∀ c ∈ cs, GS c) ∧ cs.length ≤ 10000 ∧
  ∀ (r : Addr) (ks : List Addr) (H' : Hp), Same H H' → H' r = some (.tup (ks.map V.ref)) → SetsAt P w C H' ks (leastC cs) → Q (.ref r) H'
theorem same_wr {H Hc : Hp} {a : Addr} {o : HO} (s : Same H Hc) (n : H a = none) : Same H (upd Hc a o) := fun z o' e => by
  rw [upd_ne (ne_of_none e n)]
  exact s _ _ e
theorem InU.mono {n m : Nat} {cs : List ASet} (h : InU n cs) (l : n ≤ m) : InU m cs := let ⟨U, a, b⟩ := h; ⟨U, Nat.le_trans a l, b⟩
theorem set_len {n : Nat} {cs : List ASet} (h : InU n cs) {c : ASet} (hc : c ∈ cs) (g : GS c) : c.length ≤ n := let ⟨_, a, b⟩ := h; Nat.le_trans (g.k.nd.length_le_of_subset (b c hc)) a
theorem step_len (ks : List ASet) (c : ASet) : (stepK ks c).length ≤ ks.length + 1 := by
  unfold LfX.stepK
  split
  · omega
  · rw [List.length_append]; show _ + 1 ≤ _; omega
theorem keep_len (cs : List ASet) : ∀ ks : List ASet, (cs.foldl stepK ks).length ≤ ks.length + cs.length := by
  induction cs with
  | nil => intro ks; exact Nat.le_refl _
  | cons c cs ih =>
    intro ks
    rw [List.foldl_cons]
    have := ih (stepK ks c)
    have := step_len ks c
    rw [List.length_cons]
    omega
theorem keep_mem {cs : List ASet} : ∀ {ks : List ASet} {k : ASet}, k ∈ cs.foldl stepK ks → k ∈ ks ∨ k ∈ cs := by
  induction cs with
  | nil => intro ks k h; exact .inl h
  | cons c cs ih =>
    intro ks k h
    rw [List.foldl_cons] at h
    rcases ih h with h | h
    · unfold LfX.stepK at h
      split at h
      · exact .inl h
      · rcases List.mem_append.mp h with h | h
        · exact .inl h
        · exact .inr (by rw [List.mem_singleton.mp h]; exact List.mem_cons_self)
    · exact .inr (List.mem_cons_of_mem _ h)
section
variable {P : Program} {w : World} {K : PySem.W.Frag} {mg : Str → Option Value} {base : Heap} {C : Addr}
theorem scLe : FnScope nLe ["sets"] (defScope sLe) := ⟨rfl, rfl, rfl, by decide +kernel, rfl, by decide +kernel, by decide +kernel⟩
set_option maxHeartbeats 1000000 in
theorem ok_le {f fBo fIo fMk : Addr} {t1 : Tok} {fd fdBo fdIo fdMk : FuncData} (F : Fun K "_least" "_least" sLe f fd) (Y : TxA K mg C) (T : Bi mg) (T_any : mg "any" = none) (mMA : mg "MOST_ACTS" = some (.int 8 t1))
    (BO : Df K mg "_bits_of" sBo fBo fdBo ["sets"]) (GBo : FnOk P w K mg base CX0 1 fBo fdBo ["sets"] (spBo P w C)) (IO : Df K mg "in_order_of_sets" sIO fIo fdIo ["sets"]) (GIo : FnOk P w K mg base CX0 6 fIo fdIo ["sets"] (spIO P w C))
    (MK : Df K mg "_mask" sMk fMk fdMk ["one", "bits"]) (GMk : FnOk P w K mg base CX0 1 fMk fdMk ["one", "bits"] (spMk P w C)) : FnOk P w K mg base CX0 7 f fd ["sets"] (spLe P w C) := by
  refine F.ok scLe (fun vs H Q E h => ?_) (fun cdv A outer s H vs Q E hr h => ?_)
  · obtain ⟨t, os, cs, rfl, _⟩ := h
    rfl
  · obtain ⟨t, os, cs, rfl, ht, S, hU, gs, lcs, k⟩ := h
    have hr6 : Room 6 _ := hr
    have hr1 : Room 1 _ := hr.mono (by decide)
    have hu := hu_of hr
    refine ⟨_, (pss_cons (ps_set (i := 1) scLe.nd rfl (Or.inl rfl) (pe_call GBo hr1 (by rfl) BO.m BO.F.kp BO.b .nil pass0 (pa_cons (pv 0) pa_nil)))
      (pss_cons (ps_set (i := 2) scLe.nd rfl (Or.inl rfl) (pe_lst pa_nil))
      (pss_cons (ps_set (i := 3) scLe.nd rfl (Or.inl rfl) (pe_lst pa_nil))
      (pss_cons (ps_set (i := 4) scLe.nd rfl (Or.inl rfl) (pe_dnewLw (P := P) (w := w) rfl rfl))
      (pss_cons (ps_for PassesOwn.never rfl (pi_list (pe_call GIo hr6 (by rfl) IO.m IO.F.kp IO.b .nil pass0 (pa_cons (pv 0) pa_nil))) (pg_name (i := 5) scLe.nd rfl (Or.inl rfl))
      (pss_cons (ps_set (i := 6) scLe.nd rfl (Or.inr rfl) (pe_call GMk hr1 (by rfl) MK.m MK.F.kp MK.b .nil pass0 (pa_cons (pv 5) (pa_cons (pv 1) pa_nil))))
        (pss_cons (ps_if (pt_not (pt_val (pe_callB (cr_any rfl) (by rfl) T_any (by decide +kernel) (pa_cons (pe_lc (own := [("other", 7)]) (g := gName 7) (tt := tYes) rfl scLe.nd (pi_list (pv 3)) (blkOk_by (N := nLe) (sc := defScope sLe) (by decide +kernel)) (fun _ _ _ _ _ => pg_name (i := 7) scLe.nd rfl (Or.inl rfl)) (fun _ _ _ _ _ => pts_nil) (fun _ _ _ _ _ => pe_cmpR op_eq (pe_op op_and (pv 6) (pv 7)) (pv 7) (nomark _))) pa_nil))))
        (pss_cons (ps_expr (pe_bm PySem.F.plainAttrs_list PySem.F.slot_list_append PySem.F.type_list_append mt_append (pv 2) (pa_cons (pv 5) pa_nil)))
          (pss_cons (ps_expr (pe_bm PySem.F.plainAttrs_list PySem.F.slot_list_append PySem.F.type_list_append mt_append (pv 3) (pa_cons (pv 6) pa_nil)))
          (pss_one (ps_for PassesOwn.never rfl (pi_tup (pe_fld (pv 5) rfl)) (pg_name (i := 8) scLe.nd rfl (Or.inl rfl))
          (pss_one (ps_lput hu (pv 4) (pv 8) pe_bl rfl))))))
        pss_nil)
        (pss_one (ps_if (pt_cmpR op_gt (pe_callB call_len_L (by rfl) T.len (by decide +kernel) (pa_cons (pv 4) pa_nil)) (pe_glob (v := .int 8) rfl mMA ⟨_, rfl⟩) (nomark _))
        (pss_one (ps_never))
        pss_nil)))))
      (pss_one (ps_ret (pe_callTy call_tuple_of (by rfl) T.tuple (by decide +kernel) (pa_cons (pv 2) pa_nil))))))))), ?_⟩
    refine ⟨_, rfl, t, os, cs, rfl, ht, S, hU.mono (by decide), fun d bs H1 s1 nd1 B1 mb => ?_⟩
    refine ⟨Nat.zero_le _, fun kl hkl => ?_⟩
    have s2 : Same H1 (upd H1 kl (.lst [])) := (Same.refl H1).put hkl
    have e2 : (upd H1 kl (.lst [])) kl = some (.lst []) := upd_same
    generalize upd H1 kl (.lst []) = H2 at s2 e2 ⊢
    refine ⟨Nat.zero_le _, fun ml hml => ?_⟩
    have s3 : Same H2 (upd H2 ml (.lst [])) := (Same.refl H2).put hml
    have e3 : (upd H2 ml (.lst [])) ml = some (.lst []) := upd_same
    have nkm : kl ≠ ml := ne_of_none e2 hml
    generalize upd H2 ml (.lst []) = H3 at s3 e3 ⊢
    intro td htd tsys
    have s4 : Same H3 (upd H3 td (LfO P w td [])) := (Same.refl H3).put htd
    have M4 : TogM P w (upd H3 td (LfO P w td [])) td cs.flatten := ⟨[], [], ⟨upd_same, fun x hx => by simp at hx, tsys, Nat.zero_le _⟩, ⟨rfl, .nil⟩, fun a h => by simp at h⟩
    have nkt : kl ≠ td := ne_of_none (s3 _ _ e2) htd
    have nmt : ml ≠ td := ne_of_none e3 htd
    generalize upd H3 td (LfO P w td []) = H4 at s4 M4 ⊢
    have s04 := ((s1.trans s2).trans s3).trans s4
    have nk0 : H kl = none := s1.free hkl
    have nm0 : H ml = none := (s1.trans s2).free hml
    have nt0 : H td = none := ((s1.trans s2).trans s3).free htd
    refine ⟨_, rfl, t, os, cs, rfl, s04 _ _ ht, S.same s04, fun c hc => ⟨(gs c hc).w, by have := set_len hU hc (gs c hc); omega⟩, fun l os' H5 s5 nl hl S5 => ?_⟩
    have e25 := s5 _ _ (s4 _ _ (s3 _ _ e2))
    have e35 := s5 _ _ (s4 _ _ e3)
    have p := sortC_perm cs
    have gs' : ∀ c ∈ sortC cs, GS c := fun c hc => gs c (p.mem_iff.mp hc)
    have inb : ∀ c ∈ sortC cs, ∀ a ∈ c, a ∈ bs := fun c hc a ha => (mb a).mpr ⟨c, p.mem_iff.mp hc, ha⟩
    have M5 : TogM P w H5 td cs.flatten := let ⟨xs, ys, D, a, b⟩ := M4.ex; ⟨xs, ys, D.mono s5, a, b⟩
    have s05 := s04.trans s5
    have s15 := ((s2.trans s3).trans s4).trans s5
    have nk1 : H1 kl = none := hkl
    have nm1 : H1 ml = none := s2.free hml
    have nt1 : H1 td = none := (s2.trans s3).free htd
    have B5 := B1.same (((s2.trans s3).trans s4).trans s5)
    have lsc : (sortC cs).length ≤ 10000 := by rw [p.length_eq]; exact lcs
    have nkl : kl ≠ l := fun e => by rw [← e] at nl; rw [s4 _ _ (s3 _ _ e2)] at nl; cases nl
    have nml : ml ≠ l := fun e => by rw [← e] at nl; rw [s4 _ _ e3] at nl; cases nl
    have ntl : td ≠ l := fun e => by obtain ⟨xs, ys, D, _⟩ := M4.ex; rw [← e] at nl; rw [D.at_] at nl; cases nl
    refine ⟨l, rfl, ⟨_, SqL.of hl⟩, ?_⟩
    have SH := S5 H S
    refine for_list (K := K) (a := l) (xs := os'.map V.ref) (fun i σ Hc => ∃ (v5 v6 v7 v8 : Option V) (kos : List Addr), σ = [some (.ref t), some (.ref d), some (.ref kl), some (.ref ml), some (.ref td), v5, v6, v7, v8] ∧ Hc kl = some (.lst (kos.map V.ref)) ∧ SetsAt P w C H kos (((sortC cs).take i).foldl stepK []) ∧
      Hc ml = some (.lst ((((sortC cs).take i).foldl stepK []).map fun k => V.int ((maskN bs k : Nat) : Int))) ∧ TogM P w Hc td cs.flatten ∧ Same H1 Hc ∧ Hc l = some (.lst (os'.map V.ref))) ?_ ?_ ?_ ?_
    · exact ⟨_, _, _, _, [], rfl, e25, SetsAt.nil, e35, M5, s15, hl⟩
    · rintro i σ Hc _ ⟨v5, v6, v7, v8, kos, rfl, _, _, _, _, _, hlc⟩
      exact SqL.of hlc
    · rintro i x σ Hc hx ⟨v5, v6, v7, v8, kos, rfl, hk, SK, hm, TM, sm1, hlc⟩
      have sm := s1.trans sm1
      have BC := B1.same sm1
      obtain ⟨o, c, rfl, hc, ho, AH, hi⟩ := SH.nth hx
      have hcm := List.mem_of_getElem? hc
      have et : (sortC cs).take (i + 1) = (sortC cs).take i ++ [c] := by rw [List.take_add_one, hc]; rfl
      have A0 := AH.same sm
      have gc := gs' c hcm
      have kin : ∀ k ∈ ((sortC cs).take i).foldl stepK [], k ∈ sortC cs := fun k hk => (keep_mem hk).elim (fun z => by simp at z) fun z => List.mem_of_mem_take z
      have kln : (((sortC cs).take i).foldl stepK []).length ≤ 10000 := by
        have h1 := keep_len ((sortC cs).take i) []
        rw [List.length_take, List.length_nil] at h1
        omega
      have es : ((sortC cs).take (i + 1)).foldl stepK [] = LfX.stepK (((sortC cs).take i).foldl stepK []) c := by rw [et, List.foldl_append]; rfl
      generalize ((sortC cs).take i).foldl stepK [] = ks at SK hm kin kln es
      refine ⟨_, rfl, _, rfl, o, d, c, bs, rfl, A0, BC, inb c hcm, ?_⟩
      refine ⟨_, rfl, ml, rfl, ⟨_, SqL.of hm⟩, fun D hD => ?_⟩
      refine lc_list (K := K) (a := ml) (xs := ks.map fun k => V.int ((maskN bs k : Nat) : Int)) (fun j Hd => Hd D = some (.lst (((ks.take j).map fun k => decide (SubS k c)).map V.bl)) ∧ Same Hc Hd) ?_ ?_ ?_ ?_
      · exact ⟨upd_same, (Same.refl _).put hD⟩
      · rintro j Hd _ ⟨_, sd⟩
        exact SqL.of (sd _ _ hm)
      · rintro j y Hd hy ⟨hDl, sd⟩
        rw [List.getElem?_map] at hy
        cases hkj : ks[j]? with
        | none => rw [hkj] at hy; cases hy
        | some k =>
          rw [hkj] at hy
          cases hy
          have hkm := kin k (List.mem_of_getElem? hkj)
          have ek : ks.take (j + 1) = ks.take j ++ [k] := by rw [List.take_add_one, hkj]; rfl
          have jl := (List.getElem?_eq_some_iff.mp hkj).1
          refine ⟨rfl, _, rfl, _, rfl, _, _, rfl, rfl, _, rfl, rfl, _, hDl, ?_, ?_, sd.put hD⟩
          · rw [List.length_map, List.length_map, List.length_take]; show _ < 16777216; omega
          · have e : decide (V.int (Builtin.bitAnd ((maskN bs c : Nat) : Int) ((maskN bs k : Nat) : Int)) = V.int ((maskN bs k : Nat) : Int)) = decide (SubS k c) := by
              rw [band_nat]
              refine decide_eq_decide.mpr ⟨fun z => (mask_sub (inb k hkm)).mp (by have := V.int.inj z; omega), fun z => by rw [(mask_sub (inb k hkm)).mpr z]⟩
            rw [upd_same, ek, List.map_append, List.map_append]
            show some (HO.lst (_ ++ [V.bl (decide (V.int (Builtin.bitAnd ((maskN bs c : Nat) : Int) ((maskN bs k : Nat) : Int)) = V.int ((maskN bs k : Nat) : Int)))])) = _
            rw [e]
            rfl
      rintro Hd ⟨hDl, sd⟩
      rw [List.length_map, List.take_length] at hDl
      refine ⟨D, _, rfl, SqL.of hDl, ?_⟩
      have ea : ((ks.map fun k => decide (SubS k c)).any id) = ks.any fun k => decide (SubS k c) := by rw [List.any_map]; rfl
      rw [ea]
      refine ⟨_, rfl, ?_⟩
      have l8 : ∀ bs' : ASet, bs'.Nodup → (∀ a ∈ bs', a ∈ cs.flatten) → bs'.length ≤ 8 := fun bs' nd sub => let ⟨U, hU1, hU2⟩ := hU; Nat.le_trans (nd.length_le_of_subset fun a ha => let ⟨c', hc', ha'⟩ := List.mem_flatten.mp (sub a ha); hU2 c' hc' a ha') hU1
      have sd1 := sm1.trans sd
      have nDk : kl ≠ D := ne_of_none hk hD
      have nDm : ml ≠ D := ne_of_none hm hD
      have nDl : l ≠ D := ne_of_none hlc hD
      have TMd : TogM P w Hd td cs.flatten := let ⟨xs, ys, D, a, b⟩ := TM.ex; ⟨xs, ys, D.mono sd, a, b⟩
      have hkd := sd _ _ hk
      have hmd := sd _ _ hm
      have hld := sd _ _ hlc
      cases hb : ks.any fun k => decide (SubS k c) with
      | true =>
        have ek : LfX.stepK ks c = ks := by unfold LfX.stepK; rw [hb]; rfl
        refine iteF ?_
        obtain ⟨xs', bs', LD', KB', ib'⟩ := TMd.ex
        have h8 := l8 bs' KB'.2 ib'
        rw [← keys_len KB'] at h8
        refine ⟨_, rfl, td, xs', rfl, LD', _, _, rfl, rfl, _, rfl, ite2 (fun hg => ?_) (fun _ => ?_)⟩
        · exact absurd (of_decide_eq_true hg) (by omega)
        refine ⟨_, _, _, _, kos, rfl, hkd, ?_, ?_, TMd, sd1, hld⟩
        · rw [es, ek]; exact SK
        · rw [es, ek]; exact hmd
      | false =>
        have ek : LfX.stepK ks c = ks ++ [c] := by unfold LfX.stepK; rw [hb]; rfl
        refine iteT ?_
        refine ⟨_, rfl, .inl ⟨rfl, _, SqL.of hkd⟩, _, rfl, kl, _, _, rfl, rfl, hkd, (by rw [List.length_map, SK.1]; show _ < 16777216; omega), ?_⟩
        have sk : Same H1 (upd Hd kl (.lst (kos.map V.ref ++ [.ref o]))) := same_wr sd1 nk1
        have nkm1 : ml ≠ kl := Ne.symm nkm
        have ek1 : (upd Hd kl (.lst (kos.map V.ref ++ [.ref o]))) kl = some (.lst (kos.map V.ref ++ [.ref o])) := upd_same
        have em1 : (upd Hd kl (.lst (kos.map V.ref ++ [.ref o]))) ml = some _ := (upd_ne nkm1).trans hmd
        have el1 : (upd Hd kl (.lst (kos.map V.ref ++ [.ref o]))) l = some _ := (upd_ne (Ne.symm nkl)).trans hld
        have TM1 : TogM P w (upd Hd kl (.lst (kos.map V.ref ++ [.ref o]))) td cs.flatten := TMd.wrL nkt hkd
        generalize upd Hd kl (.lst (kos.map V.ref ++ [.ref o])) = G1 at sk ek1 em1 el1 TM1 ⊢
        refine ⟨_, rfl, .inl ⟨rfl, _, SqL.of em1⟩, _, rfl, ml, _, _, rfl, rfl, em1, (by rw [List.length_map]; show _ < 16777216; omega), ?_⟩
        have sk2 : Same H1 (upd G1 ml (.lst ((ks.map fun k => V.int ((maskN bs k : Nat) : Int)) ++ [.int ((maskN bs c : Nat) : Int)]))) := same_wr sk nm1
        have ek2 : (upd G1 ml (.lst ((ks.map fun k => V.int ((maskN bs k : Nat) : Int)) ++ [.int ((maskN bs c : Nat) : Int)]))) kl = some _ := (upd_ne nkm).trans ek1
        have em2 : (upd G1 ml (.lst ((ks.map fun k => V.int ((maskN bs k : Nat) : Int)) ++ [.int ((maskN bs c : Nat) : Int)]))) ml = some (.lst ((ks.map fun k => V.int ((maskN bs k : Nat) : Int)) ++ [.int ((maskN bs c : Nat) : Int)])) := upd_same
        have el2 : (upd G1 ml (.lst ((ks.map fun k => V.int ((maskN bs k : Nat) : Int)) ++ [.int ((maskN bs c : Nat) : Int)]))) l = some _ := (upd_ne (Ne.symm nml)).trans el1
        have TM2 : TogM P w (upd G1 ml (.lst ((ks.map fun k => V.int ((maskN bs k : Nat) : Int)) ++ [.int ((maskN bs c : Nat) : Int)]))) td cs.flatten := TM1.wrL nmt em1
        generalize upd G1 ml (.lst ((ks.map fun k => V.int ((maskN bs k : Nat) : Int)) ++ [.int ((maskN bs c : Nat) : Int)])) = G2 at sk2 ek2 em2 el2 TM2 ⊢
        have A2 := AH.same (s1.trans sk2)
        obtain ⟨dx, d', r, ys, qs, a1, a2, a3, a4, a5⟩ := id A2
        refine ⟨_, rfl, o, C, dx, _, _, rfl, a1, Y.cl, Y.nR, fldA_rows _ _, r, rfl, ⟨_, SqT.of a4⟩, ?_⟩
        refine for_tup (K := K) (a := r) (xs := qs.map V.ref) (fun j σ Hx => ∃ v8 : Option V, σ = [some (.ref t), some (.ref d), some (.ref kl), some (.ref ml), some (.ref td), some (.ref o), some (.int ((maskN bs c : Nat) : Int)), v7, v8] ∧ Hx kl = some (.lst (kos.map V.ref ++ [.ref o])) ∧ Hx ml = some (.lst ((ks.map fun k => V.int ((maskN bs k : Nat) : Int)) ++ [.int ((maskN bs c : Nat) : Int)])) ∧ Hx l = some (.lst (os'.map V.ref)) ∧ TogM P w Hx td cs.flatten ∧ Same H1 Hx ∧ Hx r = some (.tup (qs.map V.ref)) ∧ ActsAt Hx qs c) ?_ ?_ ?_ ?_
        · exact ⟨_, rfl, ek2, em2, el2, TM2, sk2, a4, a5⟩
        · rintro j σ Hx _ ⟨v8, rfl, _, _, _, _, _, hr4, _⟩
          exact SqT.of hr4
        · rintro j x σ Hx hx ⟨v8, rfl, x1, x2, x3, TMx, sx, hr4, hr5⟩
          obtain ⟨q, b, rfl, hbc, hqi, hqb, hj⟩ := acts_nth hr5 hx
          obtain ⟨xs, bs2, LD, KB, ib⟩ := TMx.ex
          have hq2 := hqb
          rw [← act_leaves] at hq2
          have h8 := l8 bs2 KB.2 ib
          have xl := keys_len KB
          have hz : xs.length < sizeLine := by rw [xl]; show _ < 16777216; omega
          have tnx : ∀ z ys, Hx z = some (.tup ys) → z ≠ td := fun z ys e q => by rw [q, LD.at_] at e; cases e
          have ntx : ∀ z ys, Hx z = some (.lst ys) → z ≠ td := fun z ys e q => by rw [q, LD.at_] at e; cases e
          refine ⟨_, rfl, _, rfl, td, q, actL b, xs, rfl, rfl, hq2, LD, hz, fun r0 _ => ?_⟩
          have TN : TogM P w (upd Hx td (LfO P w td (storedH xs (actL b) q r0))) td cs.flatten := by
            by_cases hin : b ∈ bs2
            · obtain ⟨e1, LD2⟩ := LD.again (q := q) (r := r0) ((KB.mem b).mpr hin)
              exact ⟨_, bs2, LD2, ⟨e1.trans KB.1, KB.2⟩, ib⟩
            · obtain ⟨e1, LD2⟩ := LD.stored (q := q) (r := r0) hq2 hz fun z => hin ((KB.mem b).mp z)
              rw [e1]
              refine ⟨_, bs2 ++ [b], LD2, ⟨by rw [List.map_append, List.map_append, KB.1]; rfl, List.nodup_append.mpr ⟨KB.2, by simp, fun x hx y hy e => ?_⟩⟩, fun a ha => ?_⟩
              · rw [List.mem_singleton.mp hy] at e
                exact hin (e ▸ hx)
              · rcases List.mem_append.mp ha with ha | ha
                · exact ib a ha
                · rw [List.mem_singleton.mp ha]
                  exact List.mem_flatten.mpr ⟨c, p.mem_iff.mp hcm, List.mem_of_getElem? hbc⟩
          exact ⟨_, rfl, (upd_ne nkt).trans x1, (upd_ne nmt).trans x2, (upd_ne (Ne.symm ntl)).trans x3, TN, same_wr sx nt1, (upd_ne (tnx _ _ hr4)).trans hr4, hr5.mono fun z ys e => (upd_ne (tnx _ _ e)).trans e⟩
        · rintro σ Hx ⟨v8, rfl, x1, x2, x3, TMx, sx, hr4, hr5⟩
          obtain ⟨xs', bs', LD', KB', ib'⟩ := TMx.ex
          have h8 := l8 bs' KB'.2 ib'
          rw [← keys_len KB'] at h8
          refine ⟨_, rfl, td, xs', rfl, LD', _, _, rfl, rfl, _, rfl, ite2 (fun hg => ?_) (fun _ => ?_)⟩
          · exact absurd (of_decide_eq_true hg) (by omega)
          refine ⟨_, _, _, _, kos ++ [o], rfl, ?_, ?_, ?_, TMx, sx, x3⟩
          · rw [List.map_append]; exact x1
          · rw [es, ek]; exact SK.snoc AH
          · rw [es, ek, List.map_append]; exact x2
    · rintro σ Hc ⟨v5, v6, v7, v8, kos, rfl, hk, SK, hm, TM, sm1, hlc⟩
      have sm := s1.trans sm1
      have BC := B1.same sm1
      rw [List.length_map, SH.1, List.take_length] at SK
      refine ⟨_, rfl, kl, _, rfl, .inl ⟨SqL.of hk, fun r hr0 => ?_⟩⟩
      have sr := sm.trans ((Same.refl Hc).put (o := .tup (kos.map V.ref)) hr0)
      exact k r kos _ sr upd_same (SK.same sr)
end
end K2
end
section
set_option Elab.async false
set_option maxRecDepth 100000
set_option linter.all false
/-! o[k] of an own class; the dual, told of lists -/
namespace K2
open PySem PySem.W PySem.Calls L2 LfX PySem.Spec PyProof.Rows
def tIxO (C : Addr) (sp : Sp) (E : XK) (to ti : TE) : TE := fun σ H Q => to σ H fun x H1 => ti σ H1 fun y H2 => ∃ a dx fs, x = .ref a ∧ H2 a = some (.ins C dx fs) ∧ sp [.ref a, y] H2 Q E
theorem pe_ixO {X : Cx} {CX : CXT} {k : Nat} {f C : Addr} {fd : FuncData} {ps : List Str} {sp : Sp} {E : XK} {o i : Expr} {pos : Pos} {to ti : TE} (F : FnOk X.prog X.w X.K X.mg X.base CX k f fd ps sp) (hb : Binds X.K fd ps []) (hx : Passes CX X E) (hr : Room (k + 1) X.A)
    (hs : PySem.W.findIn X.K (.ref C) "__getitem__" = some (some (.ref f))) (hfi : PySem.W.fnIn X.K f = true) (hf : PySem.W.isFn X.K (.ref f) = true) (ho : PE X o to) (hi : PE X i ti)
    (hsl : ∀ a v, subscripted i true (.ref a) v = runValue (.builtin "lifetime.subscript" ⟨[.ref a, v], []⟩)) : PE X (.Subscript o i pos) (tIxO C sp E to ti) := by
  refine ⟨fun pins s σ H Q I h => ?_⟩
  refine Subscript_ (thn (ho.run pins s σ H _ I h) fun u s1 ⟨x, H1, I1, rx, q1⟩ => thn (hi.run pins s1 σ H1 _ I1 q1) fun iv s2 ⟨y, H2, I2, ry, a, dx, fs, ex, ha, hsp⟩ => ?_)
  subst ex
  obtain rfl : u = Value.ref a := rx
  obtain ⟨mA, J, _⟩ := ins_get I2.hok ha
  obtain ⟨od, J, _⟩ := J.look
  obtain ⟨m, hF⟩ := I2.fr
  exact PySem.W.sub_K hF I2.ok.mod.kin J hs hfi hf (run_at (vs := [.ref a, y]) F hb hx (Sub.in1 ⟨hr, rfl⟩) I2 (.cons rfl (.cons ry .nil)) hsp) (hsl a iv)
/-- the acts of a list whose places are bits of a number -/
def bitsF (bs : ASet) (m : Nat) : ASet := bs.filter fun a => m.testBit (bs.idxOf a)
theorem mem_bitsF {bs : ASet} {m : Nat} {a : LfX.Act} : a ∈ bitsF bs m ↔ a ∈ bs ∧ m.testBit (bs.idxOf a) = true := List.mem_filter
theorem meet_m {bs k : ASet} {m : Nat} (hk : ∀ a ∈ k, a ∈ bs) : (m &&& maskN bs k ≠ 0) ↔ ∃ a ∈ k, a ∈ bitsF bs m := by
  constructor
  · intro h
    obtain ⟨j, hj⟩ := Nat.exists_testBit_of_ne_zero h
    rw [Nat.testBit_and, mask_bit, Bool.and_eq_true] at hj
    obtain ⟨b, hb, eb⟩ := List.any_eq_true.mp hj.2
    have e := of_decide_eq_true eb
    exact ⟨b, hb, mem_bitsF.mpr ⟨hk b hb, by rw [e]; exact hj.1⟩⟩
  · rintro ⟨a, ha, hm⟩ e
    have := congrArg (fun m => m.testBit (bs.idxOf a)) e
    simp only [Nat.testBit_and, mask_bit, Nat.zero_testBit] at this
    rw [(mem_bitsF.mp hm).2, List.any_eq_true.mpr ⟨a, ha, decide_eq_true rfl⟩] at this
    cases this
theorem bits_of_set (bs S : ASet) : ∃ m, m < 2 ^ bs.length ∧ ∀ a, a ∈ bitsF bs m ↔ a ∈ bs ∧ a ∈ S := by
  refine ⟨maskN bs (bs.filter fun a => decide (a ∈ S)), Nat.lt_pow_two_of_testBit _ fun i hi => ?_, fun a => ?_⟩
  · rw [mask_bit]
    refine Bool.eq_false_iff.mpr fun q => ?_
    obtain ⟨b, hb, eb⟩ := List.any_eq_true.mp q
    have := List.idxOf_lt_length_of_mem (List.mem_filter.mp hb).1
    have := of_decide_eq_true eb
    omega
  · rw [mem_bitsF, mask_bit]
    refine and_congr_right fun ha => ?_
    constructor
    · intro q
      obtain ⟨b, hb, eb⟩ := List.any_eq_true.mp q
      have e := idx_inj ha (of_decide_eq_true eb)
      rw [← e]
      exact of_decide_eq_true (List.mem_filter.mp hb).2
    · intro q
      exact List.any_eq_true.mpr ⟨a, List.mem_filter.mpr ⟨ha, decide_eq_true q⟩, decide_eq_true rfl⟩
/-- the numbers that have a bit in common with each mask -/
def meetN (bs : ASet) (css : List ASet) : List Nat := (List.range (2 ^ bs.length)).filter fun m => (css.map (maskN bs)).all fun k => decide (m &&& k ≠ 0)
def dualL (bs : ASet) (css : List ASet) : List ASet := (meetN bs css).map fun m => lawSort (bitsF bs m)
def Met (css : List ASet) (S : ASet) : Prop := ∀ c ∈ css, ∃ a ∈ c, a ∈ S
theorem mem_meet {bs : ASet} {css : List ASet} (h : ∀ c ∈ css, ∀ a ∈ c, a ∈ bs) {m : Nat} : m ∈ meetN bs css ↔ m < 2 ^ bs.length ∧ Met css (bitsF bs m) := by
  unfold meetN
  rw [List.mem_filter, List.mem_range]
  refine and_congr_right fun _ => ?_
  rw [List.all_eq_true]
  constructor
  · intro q c hc
    exact (meet_m (h c hc)).mp (of_decide_eq_true (q _ (List.mem_map.mpr ⟨c, hc, rfl⟩)))
  · intro q k hk
    obtain ⟨c, hc, rfl⟩ := List.mem_map.mp hk
    exact decide_eq_true ((meet_m (h c hc)).mpr (q c hc))
theorem up_dual {bs : ASet} {css : List ASet} (h : ∀ c ∈ css, ∀ a ∈ c, a ∈ bs) (S : ASet) : Up (dualL bs css) S ↔ Met css S := by
  constructor
  · rintro ⟨d, hd, sub⟩ c hc
    obtain ⟨m, hm, rfl⟩ := List.mem_map.mp hd
    obtain ⟨a, ha, hb⟩ := ((mem_meet h).mp hm).2 c hc
    exact ⟨a, ha, sub a ((lawSort_mem _ a).mpr hb)⟩
  · intro q
    obtain ⟨m, hm, e⟩ := bits_of_set bs S
    refine ⟨_, List.mem_map.mpr ⟨m, (mem_meet h).mpr ⟨hm, fun c hc => ?_⟩, rfl⟩, fun a ha => ((e a).mp ((lawSort_mem _ a).mp ha)).2⟩
    obtain ⟨a, ha, hs⟩ := q c hc
    exact ⟨a, ha, (e a).mpr ⟨h c hc a ha, hs⟩⟩
theorem met_met {css D : List ASet} (h : ∀ S, Up D S ↔ Met css S) (S : ASet) : Met D S ↔ Up css S := by
  constructor
  · intro q
    by_cases hu : Up css S
    · exact hu
    · have hT : Met css (css.flatten.filter fun a => decide (a ∉ S)) := fun c hc => by
        have : ¬ SubS c S := fun z => hu ⟨c, hc, z⟩
        have : ∃ a ∈ c, a ∉ S := by
          refine Classical.byContradiction fun z => this fun a ha => Classical.byContradiction fun y => z ⟨a, ha, y⟩
        obtain ⟨a, ha, hn⟩ := this
        exact ⟨a, ha, List.mem_filter.mpr ⟨List.mem_flatten.mpr ⟨c, hc, ha⟩, decide_eq_true hn⟩⟩
      obtain ⟨d, hd, sub⟩ := (h _).mpr hT
      obtain ⟨a, ha, hs⟩ := q d hd
      exact absurd hs (of_decide_eq_true (List.mem_filter.mp (sub a ha)).2)
  · rintro ⟨c, hc, sub⟩ d hd
    obtain ⟨a, ha, hb⟩ := (h d).mp ⟨d, hd, SubS.refl d⟩ c hc
    exact ⟨a, hb, sub a ha⟩
theorem bitsF_len (bs : ASet) (m : Nat) : (bitsF bs m).length ≤ bs.length := List.length_filter_le _ _
theorem bitsF_w {bs : ASet} (h : AllW bs) (m : Nat) : AllW (bitsF bs m) := filt_w h
theorem dualL_gs {bs : ASet} {css : List ASet} (h : AllW bs) : ∀ c ∈ dualL bs css, GS c := fun c hc => by
  obtain ⟨m, _, rfl⟩ := List.mem_map.mp hc
  exact GS.of (bitsF_w h m)
theorem dualL_in {bs : ASet} {css : List ASet} : ∀ c ∈ dualL bs css, ∀ a ∈ c, a ∈ bs := fun c hc a ha => by
  obtain ⟨m, _, rfl⟩ := List.mem_map.mp hc
  exact (mem_bitsF.mp ((lawSort_mem _ a).mp ha)).1
theorem dualL_len (bs : ASet) (css : List ASet) : (dualL bs css).length ≤ 2 ^ bs.length := by
  unfold dualL meetN
  rw [List.length_map]
  exact Nat.le_trans (List.length_filter_le _ _) (by rw [List.length_range]; exact Nat.le_refl _)
/-- what the dual of kept sets tells -/
theorem dual_up {bs : ASet} {css : List ASet} (w : AllW bs) (h : ∀ c ∈ css, ∀ a ∈ c, a ∈ bs) (S : ASet) : Up (leastC (dualL bs css)) S ↔ Met css S :=
  (least_up (fun c hc => (dualL_gs w c hc).k) S).trans (up_dual h S)
/-- the dual of the dual -/
theorem dual_dual {bs bs2 : ASet} {css : List ASet} (w : AllW bs) (w2 : AllW bs2) (g : ∀ c ∈ css, GS c) (h : ∀ c ∈ css, ∀ a ∈ c, a ∈ bs) (h2 : ∀ c ∈ leastC (dualL bs css), ∀ a ∈ c, a ∈ bs2) : leastC (dualL bs2 (leastC (dualL bs css))) = leastC css :=
  least_one (fun c hc => (dualL_gs w2 c hc).k) (fun c hc => (g c hc).k) fun S => (up_dual h2 S).trans (met_met (dual_up w h) S)
theorem least_mem {cs : List ASet} (h : ∀ c ∈ cs, Kept c) {k : ASet} (hk : k ∈ leastC cs) : k ∈ cs := (least_ok h).mem k hk
/-- one act less, and it is not met -/
theorem least_less {cs : List ASet} (h : ∀ c ∈ cs, Kept c) {k d : ASet} {a : LfX.Act} (hk : k ∈ leastC cs) (ha : a ∈ k) (hd : ∀ y, y ∈ d ↔ y ∈ k ∧ y ≠ a) : ¬ Up (leastC cs) d := by
  rintro ⟨k2, hk2, sub⟩
  have e := (least_ok h).anti k2 hk2 k hk fun y hy => ((hd y).mp (sub y hy)).1
  subst e
  exact ((hd a).mp (sub a ha)).2 rfl
end K2
end
section
set_option Elab.async false
set_option maxRecDepth 100000
set_option linter.all false
/-! demands: making, len, [k], a call -/
namespace K2
open PySem PySem.W PySem.Calls L2 LfX PySem.Spec PyProof.Rows
abbrev sDi : Stmt := inClass (top 16) 0
abbrev sDa : Stmt := inClass (top 16) 1
abbrev sDn : Stmt := inClass (top 16) 2
abbrev sDm : Stmt := inClass (top 16) 3
abbrev sDc : Stmt := inClass (top 16) 4
abbrev sDl : Stmt := inClass (top 16) 5
abbrev sDg : Stmt := inClass (top 16) 6
abbrev nDi : List Str := ["self", "sets"]
abbrev nDm : List Str := ["cls", "sets"]
abbrev nDc : List Str := ["self", "acts", "one"]
abbrev nDg : List Str := ["self", "at"]
def fldD (r : Addr) : List (Str × V) := putF "sets" (.ref r) []
theorem fldD_sets (r : Addr) : (fldD r).lookup ("sets" : Str) = some (.ref r) := by
  unfold fldD
  rw [lookup_putF, if_pos rfl]
theorem fldD_no (r : Addr) {f : Str} (h1 : ¬ f = "sets") : (fldD r).lookup f = none := by
  unfold fldD
  rw [lookup_putF, if_neg h1]
  rfl
structure TxD (K : PySem.W.Frag) (mg : Str → Option Value) (D : Addr) : Prop where
  cl : Cls K D
  nS : NoAttr K D "sets"
  mgD : mg "Demands" = some (.ref D)
/-- demands stand at o -/
def DmW (P : Program) (w : World) (C D : Addr) (H : Hp) (o : Addr) (ks : List ASet) : Prop := ∃ (dx r : Addr) (os : List Addr), H o = some (.ins D dx (fldD r)) ∧ H r = some (.tup (os.map V.ref)) ∧ SetsAt P w C H os ks
theorem DmW.same {P : Program} {w : World} {C D o : Addr} {H H' : Hp} {ks : List ASet} (h : DmW P w C D H o ks) (s : Same H H') : DmW P w C D H' o ks := by
  obtain ⟨dx, r, os, h1, h2, h3⟩ := h
  exact ⟨dx, r, os, s _ _ h1, s _ _ h2, h3.same s⟩
theorem DmW.ins {P : Program} {w : World} {C D o : Addr} {H : Hp} {ks : List ASet} (h : DmW P w C D H o ks) : ∃ dx fs, H o = some (.ins D dx fs) ∧ ∀ m : Str, ¬ m = "sets" → fs.lookup m = none := by
  obtain ⟨dx, r, os, h1, _⟩ := h
  exact ⟨dx, _, h1, fun m a => fldD_no r a⟩
/-- a set of acts stays when another object is written -/
theorem AcW.wr {P : Program} {w : World} {C D o p dx : Addr} {H : Hp} {c : ASet} {x : HO} (h : AcW P w C H o c) (hp : H p = some (.ins D dx [])) : AcW P w C (upd H p x) o c := by
  obtain ⟨dy, d, r, xs, qs, h1, h2, h3, h4, h5⟩ := h
  have np : o ≠ p := fun e => by
    rw [e, hp] at h1
    have e2 : ([] : List (Str × V)) = fldA d r := by injection h1 with e; injection e
    have := fldA_rows d r
    rw [← e2] at this
    cases this
  have nt : ∀ b ys, H b = some (.tup ys) → (upd H p x) b = some (.tup ys) := fun b ys e => by rw [upd_ne (ne_of e hp (by intro z; cases z))]; exact e
  exact ⟨dy, d, r, xs, qs, by rw [upd_ne np]; exact h1, ldict_upd h2 hp, h3, nt _ _ h4, h5.mono nt⟩
theorem SetsAt.wr {P : Program} {w : World} {C D p dx : Addr} {H : Hp} {os : List Addr} {cs : List ASet} {x : HO} (h : SetsAt P w C H os cs) (hp : H p = some (.ins D dx [])) : SetsAt P w C (upd H p x) os cs := ⟨h.1, fun j o c h1 h2 => (h.2 j o c h1 h2).wr hp⟩
/-- sets that demands may be made of -/
structure OkC (cs : List ASet) : Prop where
  u : InU 8 cs
  g : ∀ c ∈ cs, GS c
  n : cs.length ≤ 10000
def spDi (P : Program) (w : World) (C D : Addr) : Sp := fun vs H Q _ => ∃ (p dx rt : Addr) (os : List Addr) (cs : List ASet), vs = [.ref p, .ref rt] ∧ H p = some (.ins D dx []) ∧ H rt = some (.tup (os.map V.ref)) ∧ SetsAt P w C H os cs ∧ OkC cs ∧
  ∀ (H' : Hp), DmW P w C D H' p (leastC cs) → (∀ b o, H b = some o → b ≠ p → H' b = some o) → Q .non H'
theorem di_bind (kV doc pm : Value) (an : Option Addr) (cdv ct : Value) : ∀ us rest : List Value, us.length = ["self"].length → bindArgs (PySem.W.fnOf "__init__" "Demands.__init__" (defArgs sDi) (defBody sDi) (defScope sDi) .none kV doc pm an cdv ct) ⟨us ++ rest, []⟩ = (newTuple rest >>= fun t => pure (([("self" : Str)]).zip us ++ [(("sets" : Str), t)])) :=
  StX.bind_star1 (B := fun l => bindArgs (PySem.W.fnOf "__init__" "Demands.__init__" (defArgs sDi) (defBody sDi) (defScope sDi) .none kV doc pm an cdv ct) ⟨l, []⟩) (fun a => rfl) (fun a r rs => rfl)
def spDiR (P : Program) (w : World) (C D : Addr) : Sp := fun vs H Q E => ∃ ws rest, vs = ws ++ rest ∧ ws.length = 1 ∧ rest.length ≤ sizeLine ∧ ∀ p, H p = none → spDi P w C D (ws ++ [V.ref p]) (upd H p (.tup rest)) Q E
/-- what the making of demands asks -/
theorem initD {P : Program} {w : World} {C D : Addr} {H : Hp} {os : List Addr} {cs : List ASet} {Q : VK} {E : XK} (S : SetsAt P w C H os cs) (g : OkC cs) (k : ∀ (r : Addr) (H' : Hp), DmW P w C D H' r (leastC cs) → Same H H' → Q (.ref r) H') :
    ∀ x dx, H x = none → H dx = none → dx ≠ x → spDiR P w C D (V.ref x :: os.map V.ref) (upd (upd H dx (.own x)) x (.ins D dx [])) (fun v H2 => v = .non ∧ Q (.ref x) H2) E := by
  intro x dx nx ndx ne
  refine ⟨[V.ref x], _, rfl, rfl, ?_, fun pt hpt => ?_⟩
  · rw [List.length_map, S.1]; have := g.n; show _ ≤ 16777216; omega
  have s1 : Same H (upd (upd H dx (.own x)) x (.ins D dx [])) := ((Same.refl H).put ndx).put nx
  have s2 : Same H (upd (upd (upd H dx (.own x)) x (.ins D dx [])) pt (.tup (os.map V.ref))) := s1.put (s1.free hpt)
  exact ⟨x, dx, pt, os, cs, rfl, by rw [upd_ne (ne_of_none upd_same hpt), upd_same], upd_same, S.same s2, g, fun H' cl kp => ⟨rfl, k x H' cl fun b o e => kp b o (s2 b o e) (ne_of_none e nx)⟩⟩
theorem initAw {P : Program} {w : World} {C : Addr} {H : Hp} {ts : List Addr} {as : List LfX.Act} {E : XK} (R : ActsAt H ts as) (g : AllW as) (hl : as.length ≤ 1000) :
    ∀ x dx, H x = none → H dx = none → dx ≠ x → ∀ Q : VK, (∀ H' : Hp, AcW P w C H' x (lawSort as) → Same H H' → Q .non H') → spInR P w C (V.ref x :: ts.map V.ref) (upd (upd H dx (.own x)) x (.ins C dx [])) Q E := by
  intro x dx nx ndx ne Q k
  refine ⟨[V.ref x], _, rfl, rfl, ?_, fun pt hpt => ?_⟩
  · rw [List.length_map, R.1]; show _ ≤ 16777216; omega
  have s1 : Same H (upd (upd H dx (.own x)) x (.ins C dx [])) := ((Same.refl H).put ndx).put nx
  have s2 : Same H (upd (upd (upd H dx (.own x)) x (.ins C dx [])) pt (.tup (ts.map V.ref))) := s1.put (s1.free hpt)
  exact ⟨x, dx, pt, ts, as, rfl, by rw [upd_ne (ne_of_none upd_same hpt), upd_same], upd_same, R.mono fun b r e => s2 b _ e, g, hl, fun H' cl kp => k H' cl fun b o e => kp b o (s2 b o e) (ne_of_none e nx)⟩
def spDl (P : Program) (w : World) (C D : Addr) : Sp := fun vs H Q _ => ∃ (o : Addr) (ks : List ASet), vs = [.ref o] ∧ DmW P w C D H o ks ∧ Q (.int (ks.length : Nat)) H
def spDg (P : Program) (w : World) (C D : Addr) : Sp := fun vs H Q _ => ∃ (o : Addr) (ks : List ASet) (j : Nat) (c : ASet), vs = [.ref o, .int (j : Nat)] ∧ DmW P w C D H o ks ∧ ks[j]? = some c ∧ ∀ q, AcW P w C H q c → Q (.ref q) H
def spDc (P : Program) (w : World) (C D : Addr) : Sp := fun vs H Q _ => ∃ (o q : Addr) (ks : List ASet) (bs : ASet), vs = [.ref o, .ref q] ∧ DmW P w C D H o ks ∧ AcW P w C H q bs ∧ (∀ c ∈ ks, AllW c ∧ c.length ≤ 400) ∧ ks.length ≤ 10000 ∧ ∀ H', Same H H' → Q (.bl (ks.any fun c => decide (SubS c bs))) H'
def spDm (P : Program) (w : World) (C D : Addr) : Sp := fun vs H Q _ => ∃ (l : Addr) (os : List Addr) (cs : List ASet), vs = [.ref D, .ref l] ∧ H l = some (.lst (os.map V.ref)) ∧ SetsAt P w C H os cs ∧ OkC cs ∧ ∀ (r : Addr) (H' : Hp), DmW P w C D H' r (leastC cs) → Same H H' → Q (.ref r) H'
def spD0 (P : Program) (w : World) (C D : Addr) (cs : List ASet) : Sp := fun vs H Q _ => vs = [] ∧ ∀ (r : Addr) (H' : Hp), DmW P w C D H' r (leastC cs) → Same H H' → Q (.ref r) H'
theorem okc_nil : OkC [] := ⟨⟨[], Nat.zero_le _, fun _ h => by simp at h⟩, fun _ h => by simp at h, Nat.zero_le _⟩
theorem okc_one : OkC [[]] := ⟨⟨[], Nat.zero_le _, fun c h a ha => by rw [List.mem_singleton.mp h] at ha; simp at ha⟩, fun c h => by rw [List.mem_singleton.mp h]; exact GS.of (as := []) fun _ h => by simp at h, by show 1 ≤ 10000; omega⟩
section
variable {P : Program} {w : World} {K : PySem.W.Frag} {mg : Str → Option Value} {base : Heap} {C D f : Addr} {fd : FuncData}
theorem scDi : FnScope nDi ["self", "sets"] (defScope sDi) := ⟨rfl, rfl, rfl, by decide +kernel, rfl, by decide +kernel, by decide +kernel⟩
theorem scDa : FnScope [] [] (defScope sDa) := ⟨rfl, rfl, rfl, by decide +kernel, rfl, by decide +kernel, by decide +kernel⟩
theorem scDn : FnScope [] [] (defScope sDn) := ⟨rfl, rfl, rfl, by decide +kernel, rfl, by decide +kernel, by decide +kernel⟩
theorem scDm : FnScope nDm ["cls", "sets"] (defScope sDm) := ⟨rfl, rfl, rfl, by decide +kernel, rfl, by decide +kernel, by decide +kernel⟩
theorem scDc : FnScope nDc ["self", "acts"] (defScope sDc) := ⟨rfl, rfl, rfl, by decide +kernel, rfl, by decide +kernel, by decide +kernel⟩
theorem scDl : FnScope nLn ["self"] (defScope sDl) := ⟨rfl, rfl, rfl, by decide +kernel, rfl, by decide +kernel, by decide +kernel⟩
theorem scDg : FnScope nDg ["self", "at"] (defScope sDg) := ⟨rfl, rfl, rfl, by decide +kernel, rfl, by decide +kernel, by decide +kernel⟩
theorem ok_di {fLe : Addr} {fdLe : FuncData} (F : Fun K "__init__" "Demands.__init__" sDi f fd) (Y : TxD K mg D) (LE : Df K mg "_least" sLe fLe fdLe ["sets"]) (GLe : FnOk P w K mg base CX0 7 fLe fdLe ["sets"] (spLe P w C)) : FnR P w K mg base CX0 8 f (spDiR P w C D) := by
  obtain ⟨oc, od, kV, doc, pm, an, cdv, ct, osl, rfl, lk, hcd⟩ := F.ex
  refine StX.fn_star (ps := ["self"]) (pv := "sets") lk hcd scDi StX.cxUp_none (di_bind kV doc pm an cdv ct) fun A outer s H vs Q E hr h => ?_
  obtain ⟨p, dx, rt, os, cs, rfl, hp, ht, S, g, k⟩ := h
  have hr7 : Room 7 _ := hr
  suffices hs : ∃ t, PSs (cxOf CX0 P w K mg base nDi "Demands.__init__" (defScope sDi) f cdv A outer s H E).nox (defBody sDi) t ∧ t { nx := fun _ H' => Q .non H', rt := Q } (start nDi [V.ref p, V.ref rt]) H by
    obtain ⟨t, h1, h2⟩ := hs
    exact ⟨t, h1.nox, h2⟩
  refine ⟨_, pss_one (ps_fld (pv 0) (pe_call GLe hr7 (by rfl) LE.m LE.F.kp LE.b .nil pass0 (pa_cons (pv 1) pa_nil)) rfl), ?_⟩
  refine ⟨_, rfl, rt, os, cs, rfl, ht, S, g.u, g.g, g.n, fun r ks H1 s1 hr1 S1 => ?_⟩
  have hp1 := s1 _ _ hp
  have np : r ≠ p := ne_of hr1 hp1 (by intro z; cases z)
  refine ⟨_, rfl, p, D, dx, _, rfl, hp1, Y.cl, Y.nS, (by show 0 < 1000; decide), ?_⟩
  exact k _ ⟨dx, r, ks, upd_same, by rw [upd_ne np]; exact hr1, S1.wr hp1⟩ fun b o e n => by rw [upd_ne n]; exact s1 _ _ e
theorem ok_dm {fI : Addr} (F : Fun K "made" "Demands.made" sDm f fd) (M : Mk K D fI) (GI : FnR P w K mg base CX0 8 fI (spDiR P w C D)) : FnOk P w K mg base CX0 10 f fd ["cls", "sets"] (spDm P w C D) := by
  refine F.ok scDm (fun vs H Q E h => ?_) (fun cdv A outer s H vs Q E hr h => ?_)
  · obtain ⟨l, os, cs, rfl, _⟩ := h
    rfl
  · obtain ⟨l, os, cs, rfl, hl, S, g, k⟩ := h
    have hr9 : Room 9 _ := hr
    refine ⟨_, (pss_one (ps_ret (pe_makeL (i := 0) M GI hr9 rfl (Or.inl rfl) pass0 (pv 1)))), ?_⟩
    exact ⟨rfl, _, rfl, l, _, rfl, .inr (SqL.of hl), initD S g k⟩
theorem ok_dl (F : Fun K "__len__" "Demands.__len__" sDl f fd) (Y : TxD K mg D) (T : Bi mg) : FnOk P w K mg base CX0 1 f fd ["self"] (spDl P w C D) := by
  refine F.ok scDl (fun vs H Q E h => ?_) (fun cdv A outer s H vs Q E hr h => ?_)
  · obtain ⟨p, as, rfl, _⟩ := h
    rfl
  · obtain ⟨p, ks, rfl, ⟨dx, r, os, h1, h2, h3⟩, k⟩ := h
    refine ⟨_, (pss_one (ps_ret (pe_callB call_len_seq (by rfl) T.len PySem.boot_len (pa_cons (pe_fld (pv 0) rfl) pa_nil)))), ?_⟩
    refine ⟨_, rfl, p, D, dx, _, _, rfl, h1, Y.cl, Y.nS, fldD_sets _, r, _, rfl, .inr (SqT.of h2), ?_⟩
    rw [List.length_map, h3.1]
    exact k
theorem ok_dg (F : Fun K "__getitem__" "Demands.__getitem__" sDg f fd) (Y : TxD K mg D) : FnOk P w K mg base CX0 1 f fd ["self", "at"] (spDg P w C D) := by
  refine F.ok scDg (fun vs H Q E h => ?_) (fun cdv A outer s H vs Q E hr h => ?_)
  · obtain ⟨p, as, j, c, rfl, _⟩ := h
    rfl
  · obtain ⟨p, ks, j, c, rfl, ⟨dx, r, os, h1, h2, h3⟩, hj, k⟩ := h
    refine ⟨_, (pss_one (ps_ret (pe_ix ix_tup (pe_fld (pv 0) rfl) (pv 1) (fun _ _ => rfl)))), ?_⟩
    have jl : j < os.length := by rw [h3.1]; exact (List.getElem?_eq_some_iff.mp hj).1
    refine ⟨_, rfl, p, D, dx, _, _, rfl, h1, Y.cl, Y.nS, fldD_sets _, _, rfl, r, _, _, _, rfl, rfl, SqT.of h2, atI_nat (j := j) (by rw [List.getElem?_map, List.getElem?_eq_getElem jl]; rfl), k _ (h3.2 j _ c (List.getElem?_eq_getElem jl) hj)⟩
end
end K2
end
section
set_option Elab.async false
set_option maxRecDepth 100000
set_option linter.all false
/-! the acts of a mask; demands called -/
namespace K2
open PySem PySem.W PySem.Calls L2 LfX PySem.Spec PyProof.Rows
abbrev nPt : List Str := ["rows", "mask", "part", "k", "row"]
theorem idx_at {bs : ASet} (nd : bs.Nodup) {i : Nat} {b : LfX.Act} (h : bs[i]? = some b) : bs.idxOf b = i := by
  obtain ⟨hi, e⟩ := List.getElem?_eq_some_iff.mp h
  rw [← e]
  exact nd.idxOf_getElem i hi
theorem shr_bit (m i : Nat) : decide (V.int (Builtin.bitAnd ((m : Int) / 2 ^ ((i : Nat) : Int).toNat) 1) = V.int 1) = m.testBit i := by
  have e : (m : Int) / 2 ^ ((i : Nat) : Int).toNat = ((m / 2 ^ i : Nat) : Int) := by
    rw [Int.toNat_natCast]
    exact (by push_cast; rfl)
  rw [e, show (1 : Int) = ((1 : Nat) : Int) from rfl, band_nat, Nat.testBit_eq_decide_div_mod_eq, Nat.and_one_is_mod]
  refine decide_eq_decide.mpr ⟨fun z => by have := V.int.inj z; omega, fun z => by rw [z]⟩
def spPt (P : Program) (w : World) (C : Addr) : Sp := fun vs H Q _ => ∃ (l : Addr) (ts : List Addr) (bs : ASet) (m : Nat), vs = [.ref l, .int (m : Nat)] ∧ H l = some (.lst (ts.map V.ref)) ∧ ActsAt H ts bs ∧ bs.Nodup ∧ AllW bs ∧ bs.length ≤ 100 ∧
  ∀ (r : Addr) (H' : Hp), AcW P w C H' r (lawSort (bitsF bs m)) → Same H H' → Q (.ref r) H'
section
variable {P : Program} {w : World} {K : PySem.W.Frag} {mg : Str → Option Value} {base : Heap} {C D f : Addr} {fd : FuncData}
theorem ok_dc {fWi : Addr} {fdWi : FuncData} (F : Fun K "__call__" "Demands.__call__" sDc f fd) (Y : TxD K mg D) (YC : TxA K mg C) (T_any : mg "any" = none) (mWi : Meth K C "within" fWi) (GWi : FnOk P w K mg base CX0 4 fWi fdWi ["self", "other"] (spWiA P w C)) (bWi : Binds K fdWi ["self", "other"] []) : FnOk P w K mg base CX0 5 f fd ["self", "acts"] (spDc P w C D) := by
  refine F.ok scDc (fun vs H Q E h => ?_) (fun cdv A outer s H vs Q E hr h => ?_)
  · obtain ⟨o, q, ks, bs, rfl, _⟩ := h
    rfl
  · obtain ⟨o, q, ks, bs, rfl, ⟨dx, r, os, h1, h2, h3⟩, B, g, hn, k⟩ := h
    have hr4 : Room 4 _ := hr
    refine ⟨_, (pss_one (ps_ret (pe_callB (cr_any rfl) (by rfl) T_any (by decide +kernel) (pa_cons (pe_lc (own := [("one", 2)]) (g := gName 2) (tt := tYes) rfl scDc.nd (pi_tup (pe_fld (pv 0) rfl)) (blkOk_by (N := nDc) (sc := defScope sDc) (by decide +kernel)) (fun _ _ _ _ _ => pg_name (i := 2) scDc.nd rfl (Or.inl rfl)) (fun _ _ _ _ _ => pts_nil) (fun _ _ _ _ _ => pe_meth (pv 2) YC.cl mWi GWi hr4 bWi .nil pass0 (pa_cons (pv 1) pa_nil))) pa_nil)))), ?_⟩
    refine ⟨_, rfl, o, D, dx, _, _, rfl, h1, Y.cl, Y.nS, fldD_sets _, r, rfl, ⟨_, SqT.of h2⟩, fun L hL => ?_⟩
    refine lc_tup (K := K) (a := r) (xs := os.map V.ref) (fun i Hc => Hc L = some (.lst (((ks.take i).map fun c => decide (SubS c bs)).map V.bl)) ∧ Same H Hc) ?_ ?_ ?_ ?_
    · exact ⟨upd_same, (Same.refl H).put hL⟩
    · rintro i Hc _ ⟨_, sm⟩
      exact SqT.of (sm _ _ h2)
    · rintro i y Hc hy ⟨hDl, sm⟩
      obtain ⟨p, c, rfl, hc, ho, A0, hi⟩ := h3.nth hy
      have et : ks.take (i + 1) = ks.take i ++ [c] := by rw [List.take_add_one, hc]; rfl
      obtain ⟨gw, gl⟩ := g c (List.mem_of_getElem? hc)
      obtain ⟨dy, fs, e1, e2⟩ := A0.ins
      have A1 := A0.same sm
      refine ⟨rfl, _, rfl, p, dy, fs, rfl, sm _ _ e1, e2 _ (by decide +kernel) (by decide +kernel), _, rfl, p, q, c, bs, rfl, A1, B.same sm, gw, gl, fun H2 s2 => ⟨_, s2 _ _ hDl, ?_, ?_, (sm.trans s2).put hL⟩⟩
      · rw [List.length_map, List.length_map, List.length_take]; show _ < 16777216; omega
      · have e : (c.all fun a => decide (a ∈ bs)) = decide (SubS c bs) := by
          rw [Bool.eq_iff_iff, List.all_eq_true, decide_eq_true_iff]
          exact ⟨fun z a ha => of_decide_eq_true (z a ha), fun z a ha => decide_eq_true (z a ha)⟩
        rw [upd_same, et, List.map_append, List.map_append, e]
        rfl
    · rintro Hc ⟨hDl, sm⟩
      rw [List.length_map, h3.1, List.take_length] at hDl
      refine ⟨L, _, rfl, SqL.of hDl, ?_⟩
      have e : ((ks.map fun c => decide (SubS c bs)).any id) = ks.any fun c => decide (SubS c bs) := by rw [List.any_map]; rfl
      rw [e]
      exact k Hc sm
end
end K2
end
section
set_option Elab.async false
set_option maxRecDepth 100000
set_option linter.all false
/-! the dual -/
namespace K2
open PySem PySem.W PySem.Calls L2 LfX PySem.Spec PyProof.Rows
abbrev sDu : Stmt := inClass (top 16) 11
abbrev nDu : List Str := ["self", "bits", "rows", "masks", "meeting", "sets", "one", "mask", "other"]
abbrev scopeDu : Scope := { kind := .function, names := [(".0", .local), ("mask", .cell), ("all", .globalImplicit), ("masks", .cell)], isGenerator := false, isCoroutine := false }
abbrev ttDu (K : PySem.W.Frag) : TT := tB (tCB (rAll K) (tCons (tLc (iList K (tVar 3)) (gName 8) tYes (tOp rNe (tOp (rI0 fun i j => V.int (Builtin.bitAnd i j)) (tVar 7) (tVar 8)) (tC (V.int 0))) [8]) tNil))
def spDu (P : Program) (w : World) (C D : Addr) : Sp := fun vs H Q _ => ∃ (o : Addr) (ks : List ASet), vs = [.ref o] ∧ DmW P w C D H o ks ∧ OkC ks ∧
  ∀ (bs : ASet) (r : Addr) (H' : Hp), AllW bs → bs.length ≤ 8 → (∀ c ∈ ks, ∀ a ∈ c, a ∈ bs) → (∀ a ∈ bs, ∃ c ∈ ks, a ∈ c) → DmW P w C D H' r (leastC (dualL bs ks)) → Same H H' → Q (.ref r) H'
theorem okc_dual {bs : ASet} {css : List ASet} (w : AllW bs) (l : bs.length ≤ 8) : OkC (dualL bs css) :=
  ⟨⟨bs, l, dualL_in⟩, dualL_gs w, Nat.le_trans (dualL_len bs css) (Nat.le_trans (Nat.pow_le_pow_right (by decide) l) (by decide))⟩
theorem AcW.wrL {P : Program} {w : World} {C o p : Addr} {H : Hp} {c : ASet} {x : HO} {zs : List V} (h : AcW P w C H o c) (hp : H p = some (.lst zs)) : AcW P w C (upd H p x) o c := by
  obtain ⟨dy, d, r, xs, qs, h1, h2, h3, h4, h5⟩ := h
  have nt : ∀ b ys, H b = some (.tup ys) → (upd H p x) b = some (.tup ys) := fun b ys e => by rw [upd_ne (ne_of e hp (by intro z; cases z))]; exact e
  exact ⟨dy, d, r, xs, qs, (upd_ne (ne_of h1 hp (by intro z; cases z))).trans h1, ⟨(upd_ne (ne_of h2.at_ hp (by unfold LfO; intro z; cases z))).trans h2.at_, fun y hy => nt _ _ (h2.keys y hy), h2.sys, h2.le⟩, h3, nt _ _ h4, h5.mono nt⟩
theorem SetsAt.wrL {P : Program} {w : World} {C p : Addr} {H : Hp} {os : List Addr} {cs : List ASet} {x : HO} {zs : List V} (h : SetsAt P w C H os cs) (hp : H p = some (.lst zs)) : SetsAt P w C (upd H p x) os cs := ⟨h.1, fun j o c h1 h2 => (h.2 j o c h1 h2).wrL hp⟩
section
variable {P : Program} {w : World} {K : PySem.W.Frag} {mg : Str → Option Value} {base : Heap} {C D f : Addr} {fd : FuncData}
theorem scDu : FnScope nDu ["self"] (defScope sDu) := ⟨rfl, rfl, rfl, by decide +kernel, rfl, by decide +kernel, by decide +kernel⟩
end
end K2
end
section
set_option Elab.async false
set_option maxRecDepth 100000
set_option linter.all false
/-! demands are equal -/
namespace K2
open PySem PySem.W PySem.Calls L2 LfX PySem.Spec PyProof.Rows
abbrev sDe : Stmt := inClass (top 16) 8
abbrev nDe : List Str := ["self", "other"]
/-- two equal sets -/
def EqS (P : Program) (w : World) (C : Addr) : Addr → Addr → Hp → Prop := fun a b H => ∃ c : ASet, AcW P w C H a c ∧ AcW P w C H b c ∧ AllW c
def spDe (P : Program) (w : World) (C D : Addr) : Sp := fun vs H Q _ => ∃ (o q : Addr) (ks : List ASet), vs = [.ref o, .ref q] ∧ DmW P w C D H o ks ∧ DmW P w C D H q ks ∧ (∀ c ∈ ks, AllW c) ∧ ∀ H', Same H H' → Q (.bl true) H'
theorem DmW.ty {P : Program} {w : World} {K : PySem.W.Frag} {C D p : Addr} {H : Hp} {ks : List ASet} (h : DmW P w C D H p ks) (c : Cls K D) (o : OwnA K D) : TyX K H (.ref p) (.ref D) := by
  obtain ⟨dx, fs, h1, _⟩ := h.ins
  exact .base (.ins h1 c o.ha o.hn o.htk o.hm)
section
variable {P : Program} {w : World} {K : PySem.W.Frag} {mg : Str → Option Value} {base : Heap} {C D f : Addr} {fd : FuncData}
theorem scDe : FnScope nDe ["self", "other"] (defScope sDe) := ⟨rfl, rfl, rfl, by decide +kernel, rfl, by decide +kernel, by decide +kernel⟩
theorem eqS_of {fQe : Addr} {fdQe : FuncData} (G : FnOk P w K mg base CX0 1 fQe fdQe ["self", "other"] (spEqA P w K C)) : FnOk P w K mg base CX0 1 fQe fdQe ["self", "other"] (spEq (EqS P w C)) :=
  G.imp fun vs H Q E h => by
    obtain ⟨a, b, rfl, ⟨c, h1, h2, h3⟩, k⟩ := h
    exact ⟨a, .ref b, c, rfl, h1, h3, .inl ⟨b, c, rfl, h2, h3, by rw [decide_eq_true rfl]; exact k H fun _ _ e => e⟩⟩
theorem ok_de {fQe : Addr} {fdQe : FuncData} (F : Fun K "__eq__" "Demands.__eq__" sDe f fd) (Y : TxD K mg D) (T : Bi mg) (O : OwnA K D) (GQe : FnOk P w K mg base CX0 1 fQe fdQe ["self", "other"] (spEqA P w K C)) (bQe : Binds K fdQe ["self", "other"] [])
    (hQe : PySem.W.findIn K (.ref C) "__eq__" = some (some (.ref fQe))) (hQef : PySem.W.isFn K (.ref fQe) = true) : FnOk P w K mg base CX0 3 f fd ["self", "other"] (spDe P w C D) := by
  refine F.ok scDe (fun vs H Q E h => ?_) (fun cdv A outer s H vs Q E hr h => ?_)
  · obtain ⟨o, q, ks, rfl, _⟩ := h
    rfl
  · obtain ⟨o, q, ks, rfl, dw, ew, g, k⟩ := h
    have hr2 : Room 2 _ := hr
    have hm : Mon (DIns C (EqS P w C)) := mon_ins fun a b H H' e ⟨c, h1, h2, h3⟩ => ⟨c, h1.same e, h2.same e, h3⟩
    refine ⟨_, pss_one (ps_ret (pe_and (pe_callB call_isi (by rfl) T.isinstance (by decide +kernel) (pa_cons (pv 1) (pa_cons (pe_glob (v := .ref D) rfl Y.mgD rfl) pa_nil))) (pe_one (pe_cmpR (op_eqG (n := 2) (rcG_tup hm (eqG_ins (eqS_of GQe) hQe hQef bQe pass0)) hr2) (pe_fld (pv 0) rfl) (pe_fld (pv 1) rfl) (nomark _))))), ?_⟩
    obtain ⟨dx, r, os, h1, h2, h3⟩ := id dw
    obtain ⟨dy, r', os', g1, g2, g3⟩ := id ew
    refine ⟨_, rfl, _, _, _, _, true, rfl, .own D, ew.ty Y.cl O, kit_own D, _, rfl, ?_⟩
    refine iteT ⟨_, rfl, o, D, dx, _, _, rfl, h1, Y.cl, Y.nS, fldD_sets _, _, rfl, q, D, dy, _, _, rfl, g1, Y.cl, Y.nS, fldD_sets _, ⟨r, r', _, _, rfl, rfl, SqT.of h2, SqT.of g2, ?_, ?_⟩, fun H' e => k H' e⟩
    · rw [List.length_map, List.length_map, h3.1, g3.1]
    · intro i x y hx hy
      obtain ⟨a, c, rfl, hc, ha, A0, hi⟩ := h3.nth hx
      obtain ⟨b, c2, rfl, hc2, hb, B0, _⟩ := g3.nth hy
      rw [hc] at hc2
      cases hc2
      obtain ⟨da, fa, ea, _⟩ := A0.ins
      obtain ⟨db, fb, eb, _⟩ := B0.ins
      exact ⟨a, b, da, db, fa, fb, rfl, rfl, ea, eb, c, A0, B0, g c (List.mem_of_getElem? hc)⟩
end
end K2
end
section
set_option Elab.async false
set_option maxRecDepth 100000
set_option linter.all false
/-! the law: a part of the acts, demands of numbers -/
namespace K2
open PySem PySem.W PySem.Calls L2 LfX PySem.Spec PyProof.Rows
abbrev sPa : Stmt := top 28
abbrev sNu : Stmt := top 29
abbrev sSe : Stmt := top 30
abbrev sDd : Stmt := top 31
abbrev nPa : List Str := ["_law_acts_here", "_law_s", "_law_k"]
abbrev nNu : List Str := ["_law_pen_here", "_law_acts_here", "_law_most", "_law_k"]
abbrev nSe : List Str := ["_law_pen_here", "_law_acts_here", "_law_many", "_law_k"]
abbrev nDd : List Str := ["_law_acts_here", "_law_numbers_here", "_law_s"]
/-- the acts the law draws from stand at l -/
def UAt (H : Hp) (l : Addr) (ts : List Addr) (U : ASet) : Prop := H l = some (.lst (ts.map V.ref)) ∧ ActsAt H ts U
theorem UAt.same {H H' : Hp} {l : Addr} {ts : List Addr} {U : ASet} (h : UAt H l ts U) (s : Same H H') : UAt H' l ts U := ⟨s _ _ h.1, h.2.mono fun b r e => s b _ e⟩
structure OkU (U : ASet) : Prop where
  nd : U.Nodup
  w : AllW U
  l : U.length ≤ 8
def spPa : Sp := fun vs H Q _ => ∃ (l : Addr) (ts : List Addr) (U : ASet) (m : Nat), vs = [.ref l, .int (m : Nat)] ∧ UAt H l ts U ∧ OkU U ∧
  ∀ (r : Addr) (qs : List Addr) (H' : Hp), H' r = some (.lst (qs.map V.ref)) → ActsAt H' qs (bitsF U m) → Same H H' → Q (.ref r) H'
def intsV (ms : List Nat) : List V := ms.map fun m => V.int ((m : Nat) : Int)
/-- the sets of the numbers -/
def numC (U : ASet) (ms : List Nat) : List ASet := ms.map fun m => lawSort (bitsF U m)
theorem okc_num {U : ASet} {ms : List Nat} (h : OkU U) (l : ms.length ≤ 10000) : OkC (numC U ms) :=
  ⟨⟨U, h.l, fun c hc a ha => by
    obtain ⟨m, _, rfl⟩ := List.mem_map.mp hc
    exact (mem_bitsF.mp ((lawSort_mem _ a).mp ha)).1⟩, fun c hc => by
    obtain ⟨m, _, rfl⟩ := List.mem_map.mp hc
    exact GS.of (bitsF_w h.w m), by unfold numC; rw [List.length_map]; exact l⟩
def spDd (P : Program) (w : World) (C D : Addr) : Sp := fun vs H Q _ => ∃ (l ln : Addr) (ts : List Addr) (U : ASet) (ms : List Nat), vs = [.ref l, .ref ln] ∧ UAt H l ts U ∧ OkU U ∧ H ln = some (.lst (intsV ms)) ∧ ms.length ≤ 100 ∧
  ∀ (r : Addr) (H' : Hp), DmW P w C D H' r (leastC (numC U ms)) → Same H H' → Q (.ref r) H'
section
variable {P : Program} {w : World} {K : PySem.W.Frag} {mg : Str → Option Value} {base : Heap} {C D f : Addr} {fd : FuncData}
theorem scPa : FnScope nPa ["_law_acts_here", "_law_s"] (defScope sPa) := ⟨rfl, rfl, rfl, by decide +kernel, rfl, by decide +kernel, by decide +kernel⟩
theorem scDd : FnScope nDd ["_law_acts_here", "_law_numbers_here"] (defScope sDd) := ⟨rfl, rfl, rfl, by decide +kernel, rfl, by decide +kernel, by decide +kernel⟩
theorem ok_pa (F : Fun K "_law_part" "_law_part" sPa f fd) (T : Bi mg) : FnOk P w K mg base CX0 1 f fd ["_law_acts_here", "_law_s"] spPa := by
  refine F.ok scPa (fun vs H Q E h => ?_) (fun cdv A outer s H vs Q E hr h => ?_)
  · obtain ⟨l, ts, U, m, rfl, _⟩ := h
    rfl
  · obtain ⟨l, ts, U, m, rfl, ⟨hl, R⟩, u, k⟩ := h
    refine ⟨_, (pss_one (ps_ret (pe_lc (own := [("_law_k", 2)]) (g := gName 2) (te := tOp (rIxL K) (tVar 0) (tVar 2)) rfl scPa.nd (pi_range1 (by rfl) T.range (pa_cons (pe_callB call_len_seq (by rfl) T.len PySem.boot_len (pa_cons (pv 0) pa_nil)) pa_nil)) (blkOk_by (N := nPa) (sc := defScope sPa) (by decide +kernel)) (fun _ _ _ _ _ => pg_name (i := 2) scPa.nd rfl (Or.inl rfl)) (fun _ _ _ _ _ => pts_one (pt_cmpR op_eq (pe_op op_and (pe_op op_shr (pe_callTy call_int1 (by rfl) T.int (by decide +kernel) (pa_cons (pv 1) pa_nil)) (pv 2)) pe_int) pe_int (nomark _))) (fun s1 H1 C1 cl1 fp1 => ?el0)))), ?_⟩
    case el0 => exact pe_ix ix_list (pv 0) (pv 2) (fun _ _ => rfl)
    have tl : (ts.map V.ref).length = U.length := by rw [List.length_map, R.1]
    have ul := u.l
    refine ⟨_, rfl, l, _, rfl, .inl (SqL.of hl), _, rfl, by omega, by omega, fun D hD => ?_⟩
    rw [tl]
    refine lc_range (lo := 0) (n := U.length) (fun i Hc => LstA H D ((U.take i).filter fun a => m.testBit (U.idxOf a)) Hc) ?_ ?_ ?_
    · exact ⟨[], upd_same, ⟨rfl, fun j q a h => by simp at h⟩, (Same.refl H).put hD⟩
    · rintro i Hc hi ⟨qs', hD', A', sm⟩
      rw [Int.zero_add]
      have hti : ts[i]? = some (ts[i]'(by rw [R.1]; exact hi)) := List.getElem?_eq_getElem _
      have hx : (ts.map V.ref)[i]? = some (V.ref (ts[i]'(by rw [R.1]; exact hi))) := by rw [List.getElem?_map, hti]; rfl
      generalize ts[i]'(by rw [R.1]; exact hi) = q at hti hx
      have hb : U[i]? = some U[i] := List.getElem?_eq_getElem hi
      have hqb := R.2 i q _ hti hb
      generalize U[i] = b at hb hqb
      have et : U.take (i + 1) = U.take i ++ [b] := by rw [List.take_add_one, hb]; rfl
      refine ⟨rfl, ?_⟩
      refine ⟨_, rfl, .inl ⟨_, rfl, _, rfl, _, _, rfl, rfl, Int.natCast_nonneg i, _, _, rfl, rfl, rfl, _, rfl, ?_⟩⟩
      have eb : m.testBit i = m.testBit (U.idxOf b) := by rw [idx_at u.nd hb]
      rw [shr_bit, eb]
      have hl9 : qs'.length ≤ 100 := by
        rw [A'.1]
        have := List.length_filter_le (fun a => m.testBit (U.idxOf a)) (U.take i)
        rw [List.length_take] at this
        omega
      cases hp : m.testBit (U.idxOf b) with
      | true =>
        refine iteT ⟨_, rfl, _, rfl, l, _, _, _, rfl, rfl, SqL.of (sm _ _ hl), atI_nat (j := i) hx, _, hD', by rw [List.length_map]; show _ < 16777216; omega, qs' ++ [q], by rw [upd_same, List.map_append]; rfl, ?_, sm.put hD⟩
        rw [et, List.filter_append, List.filter_cons_of_pos (p := fun a => m.testBit (U.idxOf a)) hp, List.filter_nil]
        refine ActsAt.mono (H := Hc) (acts_snoc A' (sm _ _ hqb)) fun b xs e => ?_
        rw [upd_ne (ne_of e hD' (by intro z; cases z))]
        exact e
      | false =>
        refine iteF ?_
        rw [et, List.filter_append, List.filter_cons_of_neg (p := fun a => m.testBit (U.idxOf a)) (by rw [hp]; exact Bool.false_ne_true), List.filter_nil, List.append_nil]
        exact ⟨qs', hD', A', sm⟩
    · rintro Hc ⟨qs2, e2, A2, s2⟩
      rw [List.take_length] at A2
      exact k D qs2 Hc e2 A2 s2
theorem ok_dd {fPa pM fM pN fN : Addr} {mc md : Value} {fdPa fdM fdN : FuncData} (F : Fun K "_law_demands" "_law_demands" sDd f fd) (T : Bi mg) (YC : TxA K mg C) (Y : TxD K mg D) (PA : Df K mg "_law_part" sPa fPa fdPa ["_law_acts_here", "_law_s"]) (GPa : FnOk P w K mg base CX0 1 fPa fdPa ["_law_acts_here", "_law_s"] spPa)
    (cR : ClX.CRead K C mc) (cM : ClX.CMet K C mc "made" pM fM) (GM : FnOk P w K mg base CX0 6 fM fdM ["cls", "rows"] (spMdA P w C)) (bM : Binds K fdM ["cls", "rows"] [])
    (dR : ClX.CRead K D md) (dM : ClX.CMet K D md "made" pN fN) (GN : FnOk P w K mg base CX0 10 fN fdN ["cls", "sets"] (spDm P w C D)) (bN : Binds K fdN ["cls", "sets"] []) : FnOk P w K mg base CX0 11 f fd ["_law_acts_here", "_law_numbers_here"] (spDd P w C D) := by
  refine F.ok scDd (fun vs H Q E h => ?_) (fun cdv A outer s H vs Q E hr h => ?_)
  · obtain ⟨l, ln, ts, U, ms, rfl, _⟩ := h
    rfl
  · obtain ⟨l, ln, ts, U, ms, rfl, HU, u, hn, h100, k⟩ := h
    have hr10 : Room 10 _ := hr
    have hr6 : Room 6 _ := hr.mono (by decide)
    have hr1 : Room 1 _ := hr.mono (by decide)
    refine ⟨_, (pss_one (ps_ret (ClX.pe_cmeth (pe_glob (v := .ref D) rfl Y.mgD rfl) dR dM (GN.raw bN .nil) hr10 pass0 (pa_cons (pe_lc (own := [("_law_s", 2)]) (g := gName 2) (tt := tYes) rfl scDd.nd (pi_list (pv 1)) (blkOk_by (N := nDd) (sc := defScope sDd) (by decide +kernel)) (fun _ _ _ _ _ => pg_name (i := 2) scDd.nd rfl (Or.inl rfl)) (fun _ _ _ _ _ => pts_nil)
      (fun _ _ _ _ _ => ClX.pe_cmeth (pe_glob (v := .ref C) rfl YC.mgC rfl) cR cM (GM.raw bM .nil) hr6 pass0 (pa_cons (pe_call GPa hr1 (by rfl) PA.m PA.F.kp PA.b .nil pass0 (pa_cons (pv 0) (pa_cons (pv 2) pa_nil))) pa_nil))) pa_nil)))), ?_⟩
    refine ⟨rfl, _, rfl, ln, rfl, ⟨_, SqL.of hn⟩, fun Z hZ => ?_⟩
    refine lc_list (K := K) (a := ln) (xs := intsV ms) (fun i Hc => ∃ os2 : List Addr, Hc Z = some (.lst (os2.map V.ref)) ∧ SetsAt P w C Hc os2 (numC U (ms.take i)) ∧ Same H Hc) ?_ ?_ ?_ ?_
    · exact ⟨[], upd_same, SetsAt.nil, (Same.refl H).put hZ⟩
    · rintro i Hc _ ⟨_, _, _, sm⟩
      exact SqL.of (sm _ _ hn)
    · rintro i y Hc hy ⟨os2, hZl, SZ, sm⟩
      unfold intsV at hy
      rw [List.getElem?_map] at hy
      cases hmi : ms[i]? with
      | none => rw [hmi] at hy; cases hy
      | some m =>
        rw [hmi] at hy
        cases hy
        have em : ms.take (i + 1) = ms.take i ++ [m] := by rw [List.take_add_one, hmi]; rfl
        have il := (List.getElem?_eq_some_iff.mp hmi).1
        refine ⟨rfl, rfl, _, rfl, _, rfl, l, ts, U, m, rfl, HU.same sm, u, fun r1 qs H1 e1 A1 s1 => ⟨r1, qs, bitsF U m, rfl, e1, A1, bitsF_w u.w m, by have := bitsF_len U m; have := u.l; omega, fun r2 H2 aw s2 => ?_⟩⟩
        have hZ9 := s2 _ _ (s1 _ _ hZl)
        refine ⟨_, hZ9, ?_, os2 ++ [r2], by rw [upd_same, List.map_append]; rfl, ?_, ((sm.trans s1).trans s2).put hZ⟩
        · rw [List.length_map, SZ.1]; unfold numC; rw [List.length_map, List.length_take]; show _ < 16777216; omega
        · rw [em]
          unfold numC
          rw [List.map_append]
          exact ((SZ.same (s1.trans s2)).snoc aw).wrL hZ9
    rintro Hc ⟨os2, hZl, SZ, sm⟩
    rw [show (intsV ms).length = ms.length from List.length_map _, List.take_length] at SZ
    exact ⟨Z, os2, numC U ms, rfl, hZl, SZ, okc_num u (by omega), fun r H' dw s' => k r H' dw (sm.trans s')⟩
end
end K2
end
section
set_option Elab.async false
set_option maxRecDepth 100000
set_option linter.all false
/-! the law: numbers of sets, the acts drawn -/
namespace K2
open PySem PySem.W PySem.Calls L2 LfX PySem.Spec PyProof.Rows
abbrev sUn : Stmt := top 27
abbrev nUn : List Str := ["_law_pen_here", "_law_many", "_law_words_here", "_law_found", "_law_act"]
theorem UAt.keep {H H' : Hp} {p c l : Addr} {ns : List Int} {n : Nat} {ts : List Addr} {U : ASet} (h : UAt H l ts U) (P : Pen H p c ns n) (k : Keep p H H') (nl : l ≠ p) : UAt H' l ts U :=
  ⟨k _ _ h.1 nl, h.2.mono fun b r e => k b _ e (P.tup_ne e)⟩
/-- numbers of sets -/
def Nums (U : ASet) (ms : List Nat) : Prop := ∀ m ∈ ms, m < 2 ^ U.length
theorem intsV_snoc (ms : List Nat) (m : Nat) : intsV (ms ++ [m]) = intsV ms ++ [V.int ((m : Nat) : Int)] := by unfold intsV; rw [List.map_append]; rfl
theorem intsV_len (ms : List Nat) : (intsV ms).length = ms.length := List.length_map _
theorem one_shl {k : Nat} : (1 : Int) * 2 ^ ((k : Nat) : Int).toNat = ((2 ^ k : Nat) : Int) := by
  rw [Int.one_mul, Int.toNat_natCast]
  push_cast
  rfl
theorem rgV_ints (n : Nat) : rgV 0 (n : Int) = intsV (List.range n) := by
  unfold rgV intsV
  rw [Int.sub_zero, Int.toNat_natCast]
  exact List.map_congr_left fun i _ => by rw [Int.zero_add]
theorem pow_le8 {U : ASet} (h : U.length ≤ 8) : 2 ^ U.length ≤ 256 := Nat.pow_le_pow_right (by decide) h
def spSe : Sp := fun vs H Q _ => ∃ (p c l : Addr) (ns : List Int) (n m : Nat) (ts : List Addr) (U : ASet), vs = [.ref p, .ref l, .int m] ∧ Pen H p c ns n ∧ n + m ≤ 99990 ∧ m ≤ 100 ∧ l ≠ p ∧ UAt H l ts U ∧ U.length ≤ 8 ∧
  ∀ (r : Addr) (ms : List Nat) (H' : Hp), H' r = some (.lst (intsV ms)) → ms.length = m → Nums U ms → r ≠ p → Keep p H H' → Pen H' p c ns (n + m) → Q (.ref r) H'
def spNu : Sp := fun vs H Q _ => ∃ (p c l : Addr) (ns : List Int) (n : Nat) (ts : List Addr) (U : ASet), vs = [.ref p, .ref l] ∧ Pen H p c ns n ∧ n + 30 ≤ 99990 ∧ l ≠ p ∧ UAt H l ts U ∧ U.length ≤ 8 ∧
  ∀ (r : Addr) (ms : List Nat) (H' : Hp), H' r = some (.lst (intsV ms)) → ms.length ≤ 40 → Nums U ms → r ≠ p → Keep p H H' → Pen H' p c ns (n + 30) → Q (.ref r) H'
def spUn : Sp := fun vs H Q _ => ∃ (p c : Addr) (ns : List Int) (n m : Nat), vs = [.ref p, .int m] ∧ Pen H p c ns n ∧ n + 300 ≤ 99000 ∧ 1 ≤ m ∧ m ≤ 8 ∧
  ∀ (r : Addr) (ts : List Addr) (U : ASet) (H' : Hp), UAt H' r ts U → OkU U → U ≠ [] → (∃ W : List Str, W.length = 2 ∧ (∀ x ∈ W, VW x) ∧ ∀ a ∈ U, a.cb ∈ W) → r ≠ p → Keep p H H' → Pen H' p c ns (n + 280) → Q (.ref r) H'
section
variable {P : Program} {w : World} {K : PySem.W.Frag} {mg : Str → Option Value} {base : Heap} {C D f : Addr} {fd : FuncData}
theorem scSe : FnScope nSe ["_law_pen_here", "_law_acts_here", "_law_many"] (defScope sSe) := ⟨rfl, rfl, rfl, by decide +kernel, rfl, by decide +kernel, by decide +kernel⟩
theorem scNu : FnScope nNu ["_law_pen_here", "_law_acts_here"] (defScope sNu) := ⟨rfl, rfl, rfl, by decide +kernel, rfl, by decide +kernel, by decide +kernel⟩
theorem scUn : FnScope nUn ["_law_pen_here", "_law_many"] (defScope sUn) := ⟨rfl, rfl, rfl, by decide +kernel, rfl, by decide +kernel, by decide +kernel⟩
theorem ok_se {fD : Addr} {fdD : FuncData} (F : Fun K "_law_sets" "_law_sets" sSe f fd) (T : Bi mg) (DR : Df K mg "_law_draw" sDraw fD fdD ["_law_pen_here", "_law_many"]) (GD : FnOk P w K mg base CX0 1 fD fdD ["_law_pen_here", "_law_many"] spDraw) : FnOk P w K mg base CX0 2 f fd ["_law_pen_here", "_law_acts_here", "_law_many"] spSe := by
  refine F.ok scSe (fun vs H Q E h => ?_) (fun cdv A outer s H vs Q E hr h => ?_)
  · obtain ⟨p, c, l, ns, n, m, ts, U, rfl, _⟩ := h
    rfl
  · obtain ⟨p, c, l, ns, n, m, ts, U, rfl, P0, hn, hm, nl, HU, l8, k⟩ := h
    have hr1 : Room 1 _ := hr
    have p8 := pow_le8 l8
    refine ⟨_, (pss_one (ps_ret (pe_lc (own := [("_law_k", 3)]) (g := gName 3) (tt := tYes) (te := tCall spDraw [] E0 (tCons (tVar 0) (tCons (tOp (rI CPow fun i j => V.int (i * 2 ^ j.toNat)) (tC (V.int 1)) (tCB (fun xs H Q => ∃ p ys, xs = [V.ref p] ∧ (SqL K H p ys ∨ SqT K H p ys) ∧ Q (.int (ys.length : Nat)) H) (tCons (tVar 1) tNil))) tNil))) rfl scSe.nd (pi_range1 (by rfl) T.range (pa_cons (pv 2) pa_nil)) (blkOk_by (N := nSe) (sc := defScope sSe) (by decide +kernel)) (fun _ _ _ _ _ => pg_name (i := 3) scSe.nd rfl (Or.inl rfl)) (fun _ _ _ _ _ => pts_nil)
      (fun s1 H1 C1 cl1 fp1 => ?el0)))), ?_⟩
    case el0 => exact pe_call GD hr1 (by rfl) DR.m DR.F.kp DR.b .nil pass0 (pa_cons (pv 0) (pa_cons (pe_op op_shl pe_int (pe_callB call_len_seq (by rfl) T.len PySem.boot_len (pa_cons (pv 1) pa_nil))) pa_nil))
    refine ⟨_, rfl, _, rfl, by omega, by omega, fun L hL => ?_⟩
    have nL : L ≠ p := (P0.pne hL).symm
    have tl : (ts.map V.ref).length = U.length := by rw [List.length_map, HU.2.1]
    refine lc_range (lo := 0) (n := m) (fun i Hc => ∃ ms : List Nat, Hc L = some (.lst (intsV ms)) ∧ ms.length = i ∧ Nums U ms ∧ Keep p H Hc ∧ Pen Hc p c ns (n + i)) ?_ ?_ ?_
    · exact ⟨[], upd_same, rfl, fun m hm => by simp at hm, (Keep.refl p H).new hL, P0.new hL⟩
    · rintro i Hc hi ⟨ms, hLl, ml, nu, kc, Pc⟩
      refine ⟨rfl, _, rfl, _, rfl, l, _, rfl, .inl (SqL.of (kc _ _ HU.1 nl)), _, _, rfl, rfl, ⟨by omega, by omega, by decide⟩, p, c, ns, n + i, _, rfl, Pc, by omega, ?_, ?_, fun v H' v0 v1 k' P' => ?_⟩
      · rw [one_shl]; exact Int.natCast_pos.mpr (Nat.two_pow_pos _)
      · rw [one_shl, tl]; exact Int.lt_of_le_of_lt (Int.ofNat_le.mpr p8) (by decide)
      rw [one_shl, tl] at v1
      obtain ⟨j, rfl⟩ : ∃ j : Nat, v = (j : Int) := ⟨v.toNat, (Int.toNat_of_nonneg v0).symm⟩
      have hL' := k' _ _ hLl nL
      have cL : c ≠ L := P0.cne hL
      refine ⟨_, hL', ?_, ms ++ [j], by rw [upd_same, intsV_snoc], by rw [List.length_append, ml]; rfl, fun m hm => ?_, fun b o hb nb => ?_, ?_⟩
      · rw [intsV_len]; show _ < 16777216; omega
      · rcases List.mem_append.mp hm with hm | hm
        · exact nu m hm
        · rw [List.mem_singleton.mp hm]; exact Int.ofNat_lt.mp v1
      · by_cases e : b = L
        · rw [e, hL] at hb; cases hb
        · rw [upd_ne e]
          exact k' _ _ (kc _ _ hb nb) nb
      · exact (P'.upd' nL.symm cL).mono (by omega)
    · rintro Hc ⟨ms, hLl, ml, nu, kc, Pc⟩
      exact k L ms Hc hLl ml nu nL kc Pc
end
end K2
end
section
set_option Elab.async false
set_option maxRecDepth 100000
set_option linter.all false
/-! the law: numbers of all sets or of some, the acts drawn -/
namespace K2
open PySem PySem.W PySem.Calls L2 LfX PySem.Spec PyProof.Rows
theorem intsV_app (a b : List Nat) : intsV (a ++ b) = intsV a ++ intsV b := List.map_append
theorem Pen.away {H H' : Hp} {p c L : Addr} {ns : List Int} {n : Nat} (h : Pen H p c ns n) (np : p ≠ L) (nc : c ≠ L) (k : ∀ b o, H b = some o → b ≠ L → H' b = some o) : Pen H' p c ns n := by
  obtain ⟨a, l, h1, h2, h3, h4⟩ := h.pen
  exact ⟨⟨a, l, k _ _ h1 np, h2, h3, h4⟩, k _ _ h.cells nc, h.small⟩
section
variable {P : Program} {w : World} {K : PySem.W.Frag} {mg : Str → Option Value} {base : Heap} {C D f : Addr} {fd : FuncData}
theorem ok_nu {fD : Addr} {fdD : FuncData} (F : Fun K "_law_numbers" "_law_numbers" sNu f fd) (T : Bi mg) (DR : Df K mg "_law_draw" sDraw fD fdD ["_law_pen_here", "_law_many"]) (GD : FnOk P w K mg base CX0 1 fD fdD ["_law_pen_here", "_law_many"] spDraw) : FnOk P w K mg base CX0 2 f fd ["_law_pen_here", "_law_acts_here"] spNu := by
  refine F.ok scNu (fun vs H Q E h => ?_) (fun cdv A outer s H vs Q E hr h => ?_)
  · obtain ⟨p, c, l, ns, n, ts, U, rfl, _⟩ := h
    rfl
  · obtain ⟨p, c, l, ns, n, ts, U, rfl, P0, hn, nl, HU, l8, k⟩ := h
    have hr1 : Room 1 _ := hr
    have p8 := pow_le8 l8
    have tl : (ts.map V.ref).length = U.length := by rw [List.length_map, HU.2.1]
    refine ⟨_, (pss_cons (ps_set (i := 2) scNu.nd rfl (Or.inr rfl) (pe_op op_shl pe_int (pe_callB call_len_seq (by rfl) T.len PySem.boot_len (pa_cons (pv 1) pa_nil))))
      (pss_cons (ps_if (pt_cmpR op_le (pv 2) pe_int (nomark _))
        (pss_one (ps_ret (pe_listRg rfl (by rfl) T.list (prg_1 (by rfl) T.range (pv 2)))))
        pss_nil)
      (pss_one (ps_ret (pe_op op_cat (pe_lst (pa_cons pe_int (pa_cons (pe_op op_sub (pv 2) pe_int) pa_nil))) (pe_lc (own := [("_law_k", 3)]) (g := gName 3) (tt := tYes) rfl scNu.nd (pi_range1 (by rfl) T.range (pa_cons pe_int pa_nil)) (blkOk_by (N := nNu) (sc := defScope sNu) (by decide +kernel)) (fun _ _ _ _ _ => pg_name (i := 3) scNu.nd rfl (Or.inl rfl)) (fun _ _ _ _ _ => pts_nil) (fun _ _ _ _ _ => pe_call GD hr1 (by rfl) DR.m DR.F.kp DR.b .nil pass0 (pa_cons (pv 0) (pa_cons (pv 2) pa_nil))))))))), ?_⟩
    refine ⟨_, rfl, l, _, rfl, .inl (SqL.of HU.1), _, _, rfl, rfl, ⟨by omega, by omega, by decide⟩, ?_⟩
    have ev : (fun i j : Int => V.int (i * 2 ^ j.toNat)) 1 (((ts.map V.ref).length : Nat) : Int) = V.int ((2 ^ U.length : Nat) : Int) := by
      show V.int (1 * 2 ^ _) = _
      rw [one_shl, tl]
    rw [ev]
    have h2 := Nat.two_pow_pos U.length
    obtain ⟨N, hN⟩ : ∃ N : Nat, N = 2 ^ U.length := ⟨_, rfl⟩
    have nums : ∀ ms : List Nat, (∀ m ∈ ms, m < N) → Nums U ms := fun ms h m hm => by rw [← hN]; exact h m hm
    rw [← hN] at h2 p8 ⊢
    refine ⟨_, rfl, _, _, rfl, rfl, _, rfl, ite2 (fun hg => ?_) (fun hg => ?_)⟩
    · have h32 : N ≤ 32 := by have := of_decide_eq_true hg; omega
      refine ⟨_, rfl, _, rfl, RgOk.of_le (by omega) (by omega) (by omega) (by omega), fun q hq => ?_⟩
      rw [rgV_ints]
      exact k q (List.range N) _ upd_same (by rw [List.length_range]; omega) (nums _ fun m hm => List.mem_range.mp hm) (P0.pne hq).symm ((Keep.refl p H).new hq) ((P0.new hq).mono (by omega))
    · refine ⟨_, rfl, _, _, rfl, rfl, (by show 2 ≤ sizeLine; decide), fun L hL => ?_⟩
      have eN : ([V.int 0, (fun i j : Int => V.int (i - j)) (N : Int) 1] : List V) = intsV [0, N - 1] := by
        show [V.int 0, V.int ((N : Int) - 1)] = [V.int 0, V.int ((N - 1 : Nat) : Int)]
        rw [show (N : Int) - 1 = ((N - 1 : Nat) : Int) from by omega]
      rw [eN]
      have sL : Same H (upd H L (.lst (intsV [0, N - 1]))) := (Same.refl H).put hL
      have eL : (upd H L (.lst (intsV [0, N - 1]))) L = some (.lst (intsV [0, N - 1])) := upd_same
      have nL : L ≠ p := (P0.pne hL).symm
      have P1 := P0.same sL
      generalize upd H L (.lst (intsV [0, N - 1])) = H1 at sL eL P1 ⊢
      refine ⟨_, rfl, by decide, by decide, fun M hM => ?_⟩
      have nM : M ≠ p := (P1.pne hM).symm
      refine lc_range (lo := 0) (n := 30) (fun i Hc => ∃ ms : List Nat, Hc M = some (.lst (intsV ms)) ∧ ms.length = i ∧ (∀ m ∈ ms, m < N) ∧ Keep p H1 Hc ∧ Pen Hc p c ns (n + i)) ?_ ?_ ?_
      · exact ⟨[], upd_same, rfl, fun m hm => by simp at hm, (Keep.refl p H1).new hM, P1.new hM⟩
      · rintro i Hc hi ⟨ms, hMl, ml, nu, kc, Pc⟩
        refine ⟨rfl, _, rfl, _, rfl, p, c, ns, n + i, _, rfl, Pc, by omega, by omega, by omega, fun v H' v0 v1 k' P' => ?_⟩
        obtain ⟨j, rfl⟩ : ∃ j : Nat, v = (j : Int) := ⟨v.toNat, (Int.toNat_of_nonneg v0).symm⟩
        have hM' := k' _ _ hMl nM
        have cM : c ≠ M := P1.cne hM
        refine ⟨_, hM', ?_, ms ++ [j], by rw [upd_same, intsV_snoc], by rw [List.length_append, ml]; rfl, fun m hm => ?_, fun b o hb nb => ?_, ?_⟩
        · rw [intsV_len]; show _ < 16777216; omega
        · rcases List.mem_append.mp hm with hm | hm
          · exact nu m hm
          · rw [List.mem_singleton.mp hm]; exact Int.ofNat_lt.mp v1
        · by_cases e : b = M
          · rw [e, hM] at hb; cases hb
          · rw [upd_ne e]
            exact k' _ _ (kc _ _ hb nb) nb
        · exact (P'.upd' nM.symm cM).mono (by omega)
      · rintro Hc ⟨ms, hMl, ml, nu, kc, Pc⟩
        refine ⟨L, M, _, _, rfl, rfl, kc _ _ eL nL, hMl, ?_, fun q hq => ?_⟩
        · rw [intsV_len, intsV_len, ml]; show 2 + 30 ≤ 16777216; omega
        rw [← intsV_app]
        refine k q ([0, N - 1] ++ ms) _ upd_same (by rw [List.length_append, ml]; show 2 + 30 ≤ 40; omega) (nums _ fun m hm => ?_) (Pc.pne hq).symm ((sL.keep.trans kc).new ((sL.keep.trans kc).fresh Pc hq)) (Pc.new hq)
        rcases List.mem_append.mp hm with hm | hm
        · rcases List.mem_cons.mp hm with rfl | hm
          · exact h2
          · rw [List.mem_singleton.mp hm]; omega
        · exact nu m hm
theorem ok_un {fW fLa : Addr} {fdW fdLa : FuncData} (F : Fun K "_law_universe" "_law_universe" sUn f fd) (T : Bi mg)
    (WO : Df K mg "_law_words" sWords fW fdW ["_law_pen_here", "_law_many"]) (GW : FnOk P w K mg base CX0 2 fW fdW ["_law_pen_here", "_law_many"] spWordsB)
    (LA : Df K mg "_law_acts" sLa fLa fdLa ["_law_pen_here", "_law_outside", "_law_classes", "_law_many"]) (GLa : FnOk P w K mg base CX0 2 fLa fdLa ["_law_pen_here", "_law_outside", "_law_classes", "_law_many"] spLa) : FnOk P w K mg base CX0 3 f fd ["_law_pen_here", "_law_many"] spUn := by
  refine F.ok scUn (fun vs H Q E h => ?_) (fun cdv A outer s H vs Q E hr h => ?_)
  · obtain ⟨p, c, ns, n, m, rfl, _⟩ := h
    rfl
  · obtain ⟨p, c, ns, n, m, rfl, P0, hn, hm1, hm, k⟩ := h
    have hr2 : Room 2 _ := hr
    have hu65 := u65 hr
    refine ⟨_, (pss_cons (ps_set (i := 2) scUn.nd rfl (Or.inl rfl) (pe_call GW hr2 (by rfl) WO.m WO.F.kp WO.b .nil pass0 (pa_cons (pv 0) (pa_cons pe_int pa_nil))))
      (pss_cons (ps_set (i := 3) scUn.nd rfl (Or.inl rfl) (pe_lst pa_nil))
      (pss_cons (ps_for PassesOwn.never rfl (pi_list (pe_call GLa hr2 (by rfl) LA.m LA.F.kp LA.b .nil pass0 (pa_cons (pv 0) (pa_cons (pe_slice sl_list (pv 2) po_none (po_some pe_int)) (pa_cons (pe_slice sl_list (pv 2) (po_some pe_int) po_none) (pa_cons (pv 1) pa_nil)))))) (pg_name (i := 4) scUn.nd rfl (Or.inl rfl))
      (pss_one (ps_if (pt_cmpR (op_ninDt hu65) (pv 4) (pv 3) rfl)
        (pss_one (ps_expr (pe_bm PySem.F.plainAttrs_list PySem.F.slot_list_append PySem.F.type_list_append mt_append (pv 3) (pa_cons (pv 4) pa_nil))))
        pss_nil)))
      (pss_one (ps_ret (pv 3)))))), ?_⟩
    refine ⟨_, rfl, p, c, ns, n, 5, rfl, P0, by omega, by decide, fun wl ws H1 W wn hwl nwl k1 P1 => ?_⟩
    refine ⟨Nat.zero_le _, fun L hL => ?_⟩
    have nL : L ≠ p := (P1.pne hL).symm
    have lw : (ws.map V.str).length = 5 := by rw [List.length_map]; exact wn
    have sL : Same H1 (upd H1 L (.lst [])) := (Same.refl H1).put hL
    have eL : (upd H1 L (.lst [])) L = some (.lst []) := upd_same
    have P2 := P1.same sL
    generalize upd H1 L (.lst []) = H2 at sL eL P2 ⊢
    have hwl2 := sL _ _ hwl
    refine ⟨_, rfl, _, rfl, _, rfl, wl, _, rfl, SqL.of hwl2, fun w1 hw1 => ?_⟩
    rw [show (2 : Int) = ((2 : Nat) : Int) from rfl, cutT_upto (by omega), ← List.map_take]
    have s1 : Same H2 (upd H2 w1 (.lst ((ws.take 2).map V.str))) := (Same.refl H2).put hw1
    have g1 : (upd H2 w1 (.lst ((ws.take 2).map V.str))) w1 = some (.lst ((ws.take 2).map V.str)) := upd_same
    have n1 : w1 ≠ p := (P2.pne hw1).symm
    have P3 := P2.same s1
    generalize upd H2 w1 (.lst ((ws.take 2).map V.str)) = H3 at s1 g1 P3 ⊢
    refine ⟨_, rfl, _, rfl, wl, _, rfl, SqL.of (s1 _ _ hwl2), fun w2 hw2 => ?_⟩
    rw [cutT_from (by omega), ← List.map_drop]
    have s2 : Same H3 (upd H3 w2 (.lst ((ws.drop 2).map V.str))) := (Same.refl H3).put hw2
    have g2 : (upd H3 w2 (.lst ((ws.drop 2).map V.str))) w2 = some (.lst ((ws.drop 2).map V.str)) := upd_same
    have n2 : w2 ≠ p := (P3.pne hw2).symm
    have P4 := P3.same s2
    generalize upd H3 w2 (.lst ((ws.drop 2).map V.str)) = H4 at s2 g2 P4 ⊢
    have k04 := k1.trans ((sL.trans s1).trans s2).keep
    have eL4 := s2 _ _ (s1 _ _ eL)
    refine ⟨_, rfl, p, c, w1, w2, ns, n + 250, m, ws.take 2, ws.drop 2, rfl, P4, by omega, s2 _ _ g1, g2, n1, n2, by rw [List.length_take]; omega, by rw [List.length_take]; omega, by rw [List.length_drop]; omega, fun x hx => W.vw x (List.mem_of_mem_take hx), fun x hx => W.vw x (List.mem_of_mem_drop hx), by omega, fun la us as H5 hla AT wa wcb al nla k5 P5 => ?_⟩
    have eL5 := k5 _ _ eL4 nL
    have nlL : la ≠ L := fun e => by
      rw [e, eL5] at hla
      have e2 : us.length = 0 := by
        have : ([] : List V) = us.map V.ref := by injection hla with e; injection e
        have := congrArg List.length this
        rw [List.length_map] at this
        exact this.symm
      have := AT.1
      omega
    refine ⟨la, rfl, ⟨_, SqL.of hla⟩, ?_⟩
    refine for_list (K := K) (a := la) (xs := us.map V.ref) (fun i σ Hc => ∃ (v4 : Option V) (qs : List Addr) (U : ASet), σ = [some (.ref p), some (.int m), some (.ref wl), some (.ref L), v4] ∧ UAt Hc L qs U ∧ U.Nodup ∧ (∀ a ∈ U, a ∈ as) ∧ U.length ≤ i ∧ (0 < i → U ≠ []) ∧ (∀ b o, H5 b = some o → b ≠ L → Hc b = some o)) ?_ ?_ ?_ ?_
    · exact ⟨_, [], [], rfl, ⟨eL5, ⟨rfl, fun j q a h => by simp at h⟩⟩, .nil, fun a h => by simp at h, Nat.le_refl _, fun z => absurd z (by omega), fun b o e _ => e⟩
    · rintro i σ Hc _ ⟨v4, qs, U, rfl, _, _, _, _, _, kc⟩
      exact SqL.of (kc _ _ hla nlL)
    · rintro i x σ Hc hx ⟨v4, qs, U, rfl, ⟨hU, RU⟩, nd, sub, ul, ne0, kc⟩
      obtain ⟨q, b, rfl, hb, hqi, hqb, hi⟩ := acts_nth AT hx
      have bas := List.mem_of_getElem? hb
      have tL : ∀ z ys, H5 z = some (.tup ys) → z ≠ L := fun z ys e => ne_of e eL5 (by intro z; cases z)
      have hqc := kc _ _ hqb (tL _ _ hqb)
      refine ⟨_, rfl, _, rfl, rInDt_act (wa b bas).ok (fun y hy => (wa y (sub y hy)).ok) hqc (SqL.of hU) RU ⟨_, rfl, ?_⟩⟩
      show if (!decide (b ∈ U)) = true then _ else _
      by_cases hin : b ∈ U
      · rw [decide_eq_true hin]
        exact iteF ⟨_, qs, U, rfl, ⟨hU, RU⟩, nd, sub, by omega, fun _ => List.ne_nil_of_mem hin, kc⟩
      · rw [decide_eq_false hin]
        refine iteT ⟨_, rfl, .inl ⟨rfl, _, SqL.of hU⟩, _, rfl, L, _, _, rfl, rfl, hU, (by rw [List.length_map, RU.1]; show _ < 16777216; omega), ?_⟩
        have tc : ∀ z ys, Hc z = some (.tup ys) → z ≠ L := fun z ys e => ne_of e hU (by intro z; cases z)
        refine ⟨_, qs ++ [q], U ++ [b], rfl, ⟨by rw [upd_same, List.map_append]; rfl, (acts_snoc RU hqc).mono fun z ys e => (upd_ne (tc _ _ e)).trans e⟩, List.nodup_append.mpr ⟨nd, by simp, fun x hx y hy e => ?_⟩, fun a ha => ?_, by rw [List.length_append]; show _ + 1 ≤ _; omega, fun _ => by simp, fun z o e ne => (upd_ne ne).trans (kc z o e ne)⟩
        · rw [List.mem_singleton.mp hy] at e
          exact hin (e ▸ hx)
        · rcases List.mem_append.mp ha with ha | ha
          · exact sub a ha
          · rw [List.mem_singleton.mp ha]; exact bas
    · rintro σ Hc ⟨v4, qs, U, rfl, HU, nd, sub, ul, ne0, kc⟩
      rw [List.length_map, AT.1] at ul ne0
      refine ⟨_, rfl, k L qs U Hc HU ⟨nd, fun a ha => wa a (sub a ha), by omega⟩ (ne0 (by omega)) ⟨ws.take 2, by rw [List.length_take]; omega, fun x hx => W.vw x (List.mem_of_mem_take hx), fun a ha => wcb a (sub a ha)⟩ nL (fun b o e ne => ?_) ?_⟩
      · by_cases eb : b = L
        · have := k1 _ _ e ne
          rw [eb, hL] at this
          cases this
        · exact kc _ _ (k5 _ _ (k04 _ _ e ne) ne) eb
      · exact (P5.away nL.symm (P1.cne hL) kc).mono (by omega)
end
end K2
end
section
set_option Elab.async false
set_option maxRecDepth 100000
set_option linter.all false
/-! what the law asks of a dual, told of lists -/
namespace K2
open PySem PySem.W PySem.Calls L2 LfX PySem.Spec PyProof.Rows
theorem okc_least {cs : List ASet} (h : OkC cs) : OkC (leastC cs) := by
  have m : ∀ c ∈ leastC cs, c ∈ cs := fun c hc => least_mem (fun c hc => (h.g c hc).k) hc
  refine ⟨let ⟨U, a, b⟩ := h.u; ⟨U, a, fun c hc => b c (m c hc)⟩, fun c hc => h.g c (m c hc), ?_⟩
  have := keep_len (sortC cs) []
  rw [List.length_nil, (sortC_perm cs).length_eq] at this
  have := h.n
  show ((sortC cs).foldl stepK []).length ≤ _
  omega
theorem okc_call {cs : List ASet} (h : OkC cs) : ∀ c ∈ cs, AllW c ∧ c.length ≤ 400 := fun c hc => ⟨(h.g c hc).w, by have := set_len h.u hc (h.g c hc); omega⟩
theorem least_least {cs : List ASet} (h : OkC cs) : leastC (leastC cs) = leastC cs :=
  least_one (fun c hc => ((okc_least h).g c hc).k) (fun c hc => (h.g c hc).k) fun S => least_up (fun c hc => (h.g c hc).k) S
theorem met_least {cs : List ASet} (h : OkC cs) (S : ASet) : Met (leastC cs) S ↔ Met cs S := by
  have hk : ∀ c ∈ cs, Kept c := fun c hc => (h.g c hc).k
  constructor
  · intro q c hc
    obtain ⟨k, hk2, sub⟩ := (least_ok hk).all c hc
    obtain ⟨a, ha, hs⟩ := q k hk2
    exact ⟨a, sub a ha, hs⟩
  · intro q c hc
    exact q c (least_mem hk hc)
theorem bits_meet {U : ASet} (nd : U.Nodup) {m t : Nat} (ht : t < 2 ^ U.length) : (m &&& t ≠ 0) ↔ ∃ a ∈ lawSort (bitsF U t), a ∈ lawSort (bitsF U m) := by
  constructor
  · intro h
    obtain ⟨j, hj⟩ := Nat.exists_testBit_of_ne_zero h
    rw [Nat.testBit_and, Bool.and_eq_true] at hj
    have jl : j < U.length := by
      refine Nat.lt_of_not_le fun z => ?_
      have := Nat.testBit_lt_two_pow (Nat.lt_of_lt_of_le ht (Nat.pow_le_pow_right (by decide) z))
      rw [this] at hj
      cases hj.2
    have e : U.idxOf U[j] = j := idx_at nd (List.getElem?_eq_getElem jl)
    exact ⟨U[j], (lawSort_mem _ _).mpr (mem_bitsF.mpr ⟨List.getElem_mem jl, by rw [e]; exact hj.2⟩), (lawSort_mem _ _).mpr (mem_bitsF.mpr ⟨List.getElem_mem jl, by rw [e]; exact hj.1⟩)⟩
  · rintro ⟨a, ha, hb⟩ e
    have h1 := (mem_bitsF.mp ((lawSort_mem _ a).mp ha)).2
    have h2 := (mem_bitsF.mp ((lawSort_mem _ a).mp hb)).2
    have := congrArg (fun m => m.testBit (U.idxOf a)) e
    simp only [Nat.testBit_and, Nat.zero_testBit, h1, h2] at this
    cases this
theorem met_num {U : ASet} (nd : U.Nodup) {ms : List Nat} (h : Nums U ms) (m : Nat) : Met (numC U ms) (lawSort (bitsF U m)) ↔ ∀ t ∈ ms, m &&& t ≠ 0 := by
  constructor
  · intro q t ht
    exact (bits_meet nd (h t ht)).mpr (q _ (List.mem_map.mpr ⟨t, ht, rfl⟩))
  · intro q c hc
    obtain ⟨t, ht, rfl⟩ := List.mem_map.mp hc
    exact (bits_meet nd (h t ht)).mp (q t ht)
theorem mem_compl {U : ASet} {m : Nat} (hm : m < 2 ^ U.length) (a : LfX.Act) : a ∈ lawSort (bitsF U (2 ^ U.length - (m + 1))) ↔ a ∈ U ∧ a ∉ lawSort (bitsF U m) := by
  rw [lawSort_mem, lawSort_mem, mem_bitsF, mem_bitsF]
  refine and_congr_right fun ha => ?_
  rw [Nat.testBit_two_pow_sub_succ hm, decide_eq_true (List.idxOf_lt_length_of_mem ha), Bool.true_and]
  simp [ha]
theorem up_any (ks : List ASet) (S : ASet) : (ks.any fun c => decide (SubS c S)) = true ↔ Up ks S := by
  rw [List.any_eq_true]
  exact ⟨fun ⟨c, hc, e⟩ => ⟨c, hc, of_decide_eq_true e⟩, fun ⟨c, hc, e⟩ => ⟨c, hc, decide_eq_true e⟩⟩
/-- the dual is met by what has an act in common with each set -/
theorem dual_any {U bs : ASet} {ms : List Nat} (u : OkU U) (h : Nums U ms) (hl : ms.length ≤ 10000) (w : AllW bs) (sub : ∀ c ∈ leastC (numC U ms), ∀ a ∈ c, a ∈ bs) (m : Nat) :
    ((leastC (dualL bs (leastC (numC U ms)))).any fun c => decide (SubS c (lawSort (bitsF U m)))) = ms.all fun t => decide (m &&& t ≠ 0) := by
  rw [Bool.eq_iff_iff, up_any, dual_up w sub, met_least (okc_num u hl), met_num u.nd h, List.all_eq_true]
  exact ⟨fun q t ht => decide_eq_true (q t ht), fun q t ht => of_decide_eq_true (q t ht)⟩
/-- a set meets the demands exactly if the acts beside it do not meet the dual -/
theorem dual_compl {U bs : ASet} {ms : List Nat} (u : OkU U) (hl : ms.length ≤ 10000) (w : AllW bs) (sub : ∀ c ∈ leastC (numC U ms), ∀ a ∈ c, a ∈ bs) {m : Nat} (hm : m < 2 ^ U.length) :
    ((leastC (dualL bs (leastC (numC U ms)))).any fun c => decide (SubS c (lawSort (bitsF U (2 ^ U.length - (m + 1)))))) = !((leastC (numC U ms)).any fun c => decide (SubS c (lawSort (bitsF U m)))) := by
  have hin : ∀ c ∈ leastC (numC U ms), ∀ a ∈ c, a ∈ U := fun c hc a ha => by
    obtain ⟨t, _, rfl⟩ := List.mem_map.mp (least_mem (fun c hc => ((okc_num u hl).g c hc).k) hc)
    exact (mem_bitsF.mp ((lawSort_mem _ a).mp ha)).1
  rw [Bool.eq_iff_iff, up_any, dual_up w sub, Bool.not_eq_true', ← Bool.not_eq_true, up_any]
  constructor
  · rintro q ⟨c, hc, s⟩
    obtain ⟨a, ha, hb⟩ := q c hc
    exact ((mem_compl hm a).mp hb).2 (s a ha)
  · intro q c hc
    have n : ¬ SubS c (lawSort (bitsF U m)) := fun z => q ⟨c, hc, z⟩
    have : ∃ a ∈ c, a ∉ lawSort (bitsF U m) := Classical.byContradiction fun z => n fun a ha => Classical.byContradiction fun y => z ⟨a, ha, y⟩
    obtain ⟨a, ha, hn⟩ := this
    exact ⟨a, ha, (mem_compl hm a).mpr ⟨hin c hc a ha, hn⟩⟩
/-- one act less -/
theorem less_any {cs : List ASet} (h : OkC cs) {k : ASet} {a : LfX.Act} (hk : k ∈ leastC cs) (ha : a ∈ k) : ((leastC cs).any fun c => decide (SubS c (lawSort (k.filter (outB (lawSort [a])))))) = false := by
  refine Bool.eq_false_iff.mpr fun z => least_less (fun c hc => (h.g c hc).k) hk ha (fun y => ?_) ((up_any _ _).mp z)
  rw [lawSort_mem, mem_outB, lawSort_mem, List.mem_singleton]
end K2
end
section
set_option Elab.async false
set_option maxRecDepth 100000
set_option linter.all false
/-! the law: whether a dual is right -/
namespace K2
open PySem PySem.W PySem.Calls L2 LfX PySem.Spec PyProof.Rows
abbrev nDr : List Str := ["_law_pen_here", "_law_acts_here", "_law_numbers_here", "_law_one", "_law_dual", "_law_most", "_law_s", "_law_k", "_law_act", "_law_t"]
def spDr : Sp := fun vs H Q _ => ∃ (p c l ln : Addr) (ns : List Int) (n : Nat) (ts : List Addr) (U : ASet) (ms : List Nat), vs = [.ref p, .ref l, .ref ln] ∧ Pen H p c ns n ∧ n + 30 ≤ 99990 ∧ l ≠ p ∧ ln ≠ p ∧ UAt H l ts U ∧ OkU U ∧ H ln = some (.lst (intsV ms)) ∧ ms.length ≤ 100 ∧ Nums U ms ∧
  ∀ (H' : Hp), Keep p H H' → Pen H' p c ns (n + 30) → Q (.bl true) H'
theorem DmW.keep {P : Program} {w : World} {C D o p c : Addr} {H H' : Hp} {ns : List Int} {n : Nat} {ks : List ASet} (h : DmW P w C D H o ks) (Pn : Pen H p c ns n) (k : Keep p H H') : DmW P w C D H' o ks := by
  obtain ⟨a, l, hp, _⟩ := Pn.pen
  have hpL : ∃ zs, H p = some (.lst zs) := ⟨_, hp⟩
  obtain ⟨zs, hz⟩ := hpL
  have nt : ∀ b ys, H b = some (.tup ys) → H' b = some (.tup ys) := fun b ys e => k _ _ e (Pn.tup_ne e)
  have ni : ∀ b C dx fs, H b = some (.ins C dx fs) → H' b = some (.ins C dx fs) := fun b C dx fs e => k _ _ e (ne_of e hz (by intro z; cases z))
  obtain ⟨dx, r, os, h1, h2, h3⟩ := h
  refine ⟨dx, r, os, ni _ _ _ _ h1, nt _ _ h2, h3.1, fun j o c e1 e2 => ?_⟩
  obtain ⟨dy, d, r, xs, qs, g1, g2, g3, g4, g5⟩ := h3.2 j o c e1 e2
  exact ⟨dy, d, r, xs, qs, ni _ _ _ _ g1, ⟨k _ _ g2.at_ (ne_of g2.at_ hz (by unfold LfO; intro z; cases z)), fun y hy => nt _ _ (g2.keys y hy), g2.sys, g2.le⟩, g3, nt _ _ g4, g5.mono nt⟩
section
variable {P : Program} {w : World} {K : PySem.W.Frag} {mg : Str → Option Value} {base : Heap} {C D f : Addr} {fd : FuncData}
end
end K2
end
section
set_option Elab.async false
set_option maxRecDepth 100000
set_option linter.all false
/-! the pen, the law -/
namespace K2
open PySem PySem.W PySem.Calls L2 LfX PySem.Spec PyProof.Rows
abbrev sPen : Stmt := top 23
abbrev sLaw : Stmt := top 39
abbrev nLaw : List Str := ["_law_script", "_law_pen_here", "_law_turn", "_law_acts_here", "_law_numbers_here"]
def spPen (K : PySem.W.Frag) : Sp := fun vs H Q _ => ∃ (a : Addr) (ns : List Int), vs = [.ref a] ∧ SqL K H a (ns.map V.int) ∧ ns.length ≤ 63 ∧ ∀ (p c : Addr) (H' : Hp), Pen H' p c ns 0 → Same H H' → Q (.ref p) H'
def spLaw (K : PySem.W.Frag) : Sp := fun vs H Q _ => ∃ (a : Addr) (ns : List Int), vs = [.ref a] ∧ SqL K H a (ns.map V.int) ∧ ns.length ≤ 63 ∧ ∀ H', Q (.bl true) H'
theorem cut63 (ns : List Int) (h : ns.length ≤ 63) : cutV (ns.map V.int) none (some 63) = ns.map V.int := by
  unfold cutV
  rw [show (63 : Int) = ((63 : Nat) : Int) from rfl, HT.sIx_nat, HT.sIx_none, List.drop_zero, Nat.sub_zero, List.length_map, Nat.min_eq_right h]
  rw [List.take_of_length_le (by rw [List.length_map]; exact Nat.le_refl _)]
theorem pick6 {lo hi a b c d e g : Nat} (h : (lo ≤ a ∧ a ≤ hi) ∧ (lo ≤ b ∧ b ≤ hi) ∧ (lo ≤ c ∧ c ≤ hi) ∧ (lo ≤ d ∧ d ≤ hi) ∧ (lo ≤ e ∧ e ≤ hi) ∧ (lo ≤ g ∧ g ≤ hi)) {j : Nat} (hj : j < 6) : ∃ m : Nat, [V.int (a : Int), .int (b : Int), .int (c : Int), .int (d : Int), .int (e : Int), .int (g : Int)][j]? = some (.int (m : Int)) ∧ lo ≤ m ∧ m ≤ hi := by
  match j, hj with
  | 0, _ => exact ⟨a, rfl, by omega⟩
  | 1, _ => exact ⟨b, rfl, by omega⟩
  | 2, _ => exact ⟨c, rfl, by omega⟩
  | 3, _ => exact ⟨d, rfl, by omega⟩
  | 4, _ => exact ⟨e, rfl, by omega⟩
  | 5, _ => exact ⟨g, rfl, by omega⟩
  | n + 6, h => exact absurd h (by omega)
theorem never_dual {bs : ASet} (w : AllW bs) (h : ∀ c ∈ leastC ([] : List ASet), ∀ a ∈ c, a ∈ bs) : leastC (dualL bs (leastC [])) = leastC [[]] :=
  least_one (fun c hc => (dualL_gs w c hc).k) (fun c hc => (okc_one.g c hc).k) fun S => by
    rw [up_dual h, met_least okc_nil]
    exact ⟨fun _ => ⟨[], List.mem_singleton.mpr rfl, fun a ha => by simp at ha⟩, fun _ c hc => by simp at hc⟩
theorem always_dual {bs : ASet} (w : AllW bs) (h : ∀ c ∈ leastC [([] : ASet)], ∀ a ∈ c, a ∈ bs) : leastC (dualL bs (leastC [[]])) = leastC [] :=
  least_one (fun c hc => (dualL_gs w c hc).k) (fun c hc => by simp at hc) fun S => by
    rw [up_dual h, met_least okc_one]
    refine ⟨fun q => ?_, fun ⟨c, hc, _⟩ => by simp at hc⟩
    obtain ⟨a, ha, _⟩ := q [] (List.mem_singleton.mpr rfl)
    simp at ha
section
variable {P : Program} {w : World} {K : PySem.W.Frag} {mg : Str → Option Value} {base : Heap} {C D : Addr}
theorem scPen : FnScope ["_law_script"] ["_law_script"] (defScope sPen) := ⟨rfl, rfl, rfl, by decide +kernel, rfl, by decide +kernel, by decide +kernel⟩
theorem scLaw : FnScope nLaw ["_law_script"] (defScope sLaw) := ⟨rfl, rfl, rfl, by decide +kernel, rfl, by decide +kernel, by decide +kernel⟩
theorem ok_pen {f : Addr} {fd : FuncData} (F : Fun K "_law_pen" "_law_pen" sPen f fd) (T : Bi mg) : FnOk P w K mg base CX0 1 f fd ["_law_script"] (spPen K) := by
  refine F.ok scPen (fun vs H Q E h => ?_) (fun cdv A outer s H vs Q E hr h => ?_)
  · obtain ⟨a, ns, rfl, _⟩ := h
    rfl
  · obtain ⟨a, ns, rfl, hS, hl, k⟩ := h
    refine ⟨_, (pss_one (ps_ret (pe_lst (pa_cons (pe_callTy call_list_of (by rfl) T.list (by decide +kernel) (pa_cons (pe_slice sl_list (pv 0) po_none (po_some pe_int)) pa_nil)) (pa_cons pe_int (pa_cons pe_int pa_nil)))))), ?_⟩
    refine ⟨_, rfl, _, rfl, a, _, rfl, hS, fun q hq => ⟨q, _, rfl, .inl (SqL.of upd_same), fun c hc => ⟨(by show 3 ≤ sizeLine; decide), fun p hp => ?_⟩⟩⟩
    rw [cut63 ns hl] at hc hp ⊢
    have hcp : c ≠ p := ne_of_none upd_same hp
    have s1 := ((Same.refl H).put (o := .lst (ns.map V.int)) hq)
    have s2 := s1.put (o := .lst (ns.map V.int)) (s1.free hc)
    exact k p c _ ⟨⟨0, 0, upd_same, by decide, by decide, by decide⟩, by rw [upd_ne hcp, upd_same], hl⟩ (s2.put (s2.free hp))
end
end K2
end
section
set_option Elab.async false
set_option maxRecDepth 100000
set_option linter.all false
set_option maxHeartbeats 2000000
/-! ### a caught error that is kept -/
namespace L2
open PySem PySem.Spec PyProof.Rows
/-- an exception of the class cls, caught and kept, its dict at d -/
def ExT (cls : Value) (d : Option Addr) (a : Addr) : HO := .ext fun h => ∃ (oe : Obj) (vs : Array Value), h.get? a = some oe ∧ Zc cls d oe ∧ oe.data = .fields vs
theorem exT_ok {P : Program} {w : World} {H : Hp} {h : Heap} {a : Addr} {cls : Value} {d : Option Addr} {oe : Obj} {vs : Array Value} (e : h.get? a = some oe) (z : Zc cls d oe) (hd : oe.data = .fields vs) : ObjOk P w H h a (ExT cls d a) :=
  ⟨⟨oe, vs, e, z, hd⟩, ⟨_, e⟩, fun h1 h2 q k => by
    obtain ⟨oe, vs, e, z⟩ := q
    exact ⟨oe, vs, k _ e, z⟩⟩
theorem exT_at {P : Program} {w : World} {H : Hp} {h : Heap} {a : Addr} {cls : Value} {d : Option Addr} (hok : HOk P w H h) (he : H a = some (ExT cls d a)) : ∃ (oe : Obj) (vs : Array Value), h.get? a = some oe ∧ Zc cls d oe ∧ oe.data = .fields vs := by
  have x : ObjOk P w H h a (.ext fun h => ∃ (oe : Obj) (vs : Array Value), h.get? a = some oe ∧ Zc cls d oe ∧ oe.data = .fields vs) := hok a _ he
  exact x.1
section
variable {X : Cx} {pins : List (Addr × Obj)} {σ : St} {H : Hp} {s s' sI : Shared} {B : Heap} {a : Addr} {o : HO}
theorem Inv.landedT (I : Inv X pins σ H sI) (nb : ∀ b o, sI.heap.get? b = some o → b ∉ frs X.stack → B.get? b = some o) (st : B.StaysIn s'.heap) (up : sI.heap.UpToSlots s'.heap) (os : s'.os = sI.os) (ag : AllBare s'.gens)
    (na : H a = none) (ha : sI.heap.get? a = none) (new : ObjOk X.prog X.w (upd H a o) s'.heap a o) : Inv X pins σ (upd H a o) s' := by
  have nf : ∀ b ∈ frs X.stack, ∀ o, sI.heap.get? b = some o → ∃ sl, s'.heap.get? b = some { o with slots := sl } := fun b hb o e => by
    obtain ⟨_, o', e', hd⟩ := I.stack.mem hb
    rw [e] at e'; cases e'
    exact up b o e hd
  have ne : ∀ b u, sI.heap.get? b = some u → b ≠ a := fun b u e z => by
    rw [z, ha] at e
    cases e
  have hk : HOk X.prog X.w H s'.heap := (I.inGround nb).kept st
  have J := I.call (ch := []) (h' := s'.heap) (g' := s'.gens) (t' := s'.toks) (d' := s'.drawn) (H' := upd H a o)
    ⟨fun b o e _ hb _ => st b o (nb b o e hb), fun b o e _ hb _ => nf b hb o e, fun b u e n _ => by rw [upd_ne (ne b u e)]; exact n, fun b o e _ => by
      by_cases hb : b ∈ frs X.stack
      · obtain ⟨sl, q⟩ := nf b hb o e
        exact ⟨_, q⟩
      · exact ⟨o, st b o (nb b o e hb)⟩, fun b _ e => by rw [upd_ne (ne_of_none e na)]; exact e, fun b _ _ e => by rw [upd_ne (ne_of_none e na)]; exact e, fun b ps e => ⟨#[], by rw [upd_ne (ne_of_none e na), e]; simp⟩⟩
    (hk.laidN (fun _ _ e => e) na new) ag (fun _ z => nomatch z)
  obtain ⟨a1, a2, a3, a4, a5⟩ := s'
  have e5 : a5 = sI.os := os
  subst e5
  exact J
theorem Inv.suiteT (I : Inv X pins σ H s) (a : Addr) : Inv (X.suite a (X.pn ++ pins)) [] σ H s :=
  ⟨I.ok.suite _ _, I.os, I.bare, I.base, I.loc, I.cell, I.free, I.freeC, fun p hp => I.pin p (by rw [List.append_nil] at hp; exact hp), I.hok, I.len⟩
theorem Inv.unsuiteT {pn' : List (Addr × Obj)} (I : Inv (X.suite a (X.pn ++ pins)) pn' σ H s) (ok : X.Ok) : Inv X pins σ H s :=
  ⟨ok, I.os, I.bare, I.base, I.loc, I.cell, I.free, I.freeC, fun p hp => I.pin p (List.mem_append_left _ hp), I.hok, I.len⟩
end
/-- what the clause 'except x as n' wishes of an exception that is kept -/
def wAsT (K : PySem.W.Frag) (c : Value) (n i : Nat) (ts : Addr → Value → Option Addr → TS) (Wout : WX) (D : Ends) : WX := fun cls d σ H => σ.length = n →
  ∃ b, PySem.W.exmOne K cls c = some b ∧ (b = true → ∀ a, H a = none → ts a cls d { nx := fun σ' H' => D.nx (σ'.set i none) H', rt := D.rt, bk := fun σ' H' => D.bk (σ'.set i none) H', ct := fun σ' H' => D.ct (σ'.set i none) H' } (σ.set i (some (.ref a))) (upd H a (ExT cls d a))) ∧
    (b = false → Wout cls d σ H)
section
variable {X : Cx} {x n : Str} {c : Value} {i : Nat} {body suite : List Stmt} {b₀ : Stmt} {np pos pos' : Pos} {tb : WX → TS} {ts : Addr → Value → Option Addr → TS} {Wout : WX}
theorem ps_try_asT (hs : X.stack = X.env :: X.outer) (hf : X.env.frame = some X.env.locals) (hN : X.N.Nodup) (hi : X.N[i]? = some n) (hln : X.env.kindOf n = some .local) (hc : Names X x c) (tk : Takes X Wout)
    (hb : ∀ (W : WX) (pn : List (Addr × Obj)) (xe : Value → Shared → Prop), Takes (X.tr pn xe) W → PassesOwn (model X.prog X.w) X.A X.env xe → PSs (X.tr pn xe) body (tb W))
    (hsu : ∀ (a : Addr) (cls : Value) (d : Option Addr) (pn : List (Addr × Obj)), PSs (X.suite a pn) (b₀ :: suite) (ts a cls d)) :
    PS X (.Try body [.ExceptHandler (some (.Name x np)) (some n) (b₀ :: suite) pos'] [] [] pos) (fun D σ H => tb (wAsT X.K c X.N.length i ts Wout D) D σ H) := by
  refine ⟨fun pins s σ H D I h => ?_⟩
  have ok := I.ok
  have hfr : X.A.frames = some (X.env :: X.outer) := by rw [ok.frames, hs]
  have hloc : Loc X.env.scope n := .inl hln
  refine wpAny_Try_except ?_
  refine wpAny_mono ((hb (wAsT X.K c X.N.length i ts Wout D) (X.pn ++ pins) (fun e s₁ => wpAny (model X.prog X.w) X.A (noteFrame e X.env) (fun _ s₂ => wpAny (model X.prog X.w) X.A (setFlight e none) (fun _ s₃ =>
    wpAny (model X.prog X.w) X.A (handleBy e X.env [.ExceptHandler (some (.Name x np)) (some n) (b₀ :: suite) pos']) (SP X pins D) X.xe s₃) X.xe s₂) X.xe s₁) (fun u s' xx => ?_) PassesOwn.looking).run [] s σ H D (I.toTry _) h) (fun f s1 hsp => ?_) (fun e s1 he => he)
  · -- the catch
    obtain ⟨a, B, sI, pins', σ', H', cls, d, rfl, J', nb, up, sky, na, os, ag, hwish⟩ := xx
    have J : Inv X pins σ' H' sI := J'.ofTry ok
    obtain ⟨b, hb1, hyes, hno⟩ := hwish J.len
    have sky' : Sky B (X.env :: X.outer) a (Zc cls d) X.env.locals s'.heap := by rw [← hs]; exact sky
    show wpAny (model X.prog X.w) X.A (noteFrame (.ref a) X.env) _ _ _
    refine Sky.land Zc.steady hfr hf sky' fun h3 fl3 up3 => ?_
    have J3 : Inv X pins σ' H' { s' with heap := h3 } := J.landed nb fl3.1 (up.trans up3) os ag
    obtain ⟨oe3, vs3, he3, hz3, hd3⟩ := fl3.there
    have notFr : ∀ {h : Heap} {o : Obj} {vs : Array Value}, h.FunFrames B (X.env :: X.outer) → h.get? a = some o → o.data = .fields vs → a ∉ frs (X.env :: X.outer) := fun {h o vs} ff e dd hm => by
      obtain ⟨_, o', e', hnf⟩ := ff.mem hm
      rw [e] at e'; cases e'
      exact hnf _ dd
    have nfr := notFr fl3.2.2.1 he3 hd3
    have nL : a ≠ X.env.locals := fun z => nfr (List.mem_filterMap.mpr ⟨X.env, List.mem_cons_self, by rw [hf, z]⟩)
    have nF : a ∉ X.fs := fun hm => by
      obtain ⟨e, he, q⟩ := List.mem_filterMap.mp hm
      exact nfr (List.mem_filterMap.mpr ⟨e, List.mem_cons_of_mem _ he, q⟩)
    have S3 := J3.suite he3 hd3 na nL nF
    refine wpAny_handleBy_cons (codeAny_handlers_test ?_) (by intro q; cases q)
    have LT : PySem.W.Looks (model X.prog X.w) h3 (typeOf (.ref a)) cls := fun A Q E s k q => wpAny_typeOf_ref (k _ _ he3) (by rw [hz3.1]; exact q)
    have LM := PySem.W.exm_one (M := model X.prog X.w) (J3.kIn) LT hb1
    have test : ∀ {Q : Value → Shared → Prop} {E : Value → Shared → Prop}, Q c { s' with heap := h3 } → wpAny (model X.prog X.w) (X.A.mark (some (.ref a))) (eval (.Name x np) X.env) Q E { s' with heap := h3 } := fun {Q E} q => by
      obtain ⟨hg, hdbg, hm | ⟨hm, hv, hnn⟩⟩ := hc
      · exact ld_glob (X := X.suite a ((a, oe3) :: (X.pn ++ pins))) S3 hg hm q hdbg
      · exact ld_blt (X := X.suite a ((a, oe3) :: (X.pn ++ pins))) S3 hg hm hv q hnn hdbg
    refine test (LM.here ?_)
    cases b with
    | true =>
      refine codeAny_handlers_suite_as ?_
      refine HandSPX.lands_againZ fl3 fun h4 fl4 up4 => ?_
      obtain ⟨oe4, vs4, he4, hz4, hd4⟩ := fl4.there
      have hsa : sI.heap.get? a = none := by
        cases e : sI.heap.get? a with
        | none => rfl
        | some o =>
          have z := nb a o e (by rw [hs]; exact nfr)
          rw [fl4.2.1] at z
          cases z
      have J4 : Inv X pins σ' (upd H' a (ExT cls d a)) { s' with heap := h4 } := J.landedT nb fl4.1 ((up.trans up3).trans up4) os ag na hsa (exT_ok he4 hz4 hd4)
      have S4 := J4.suiteT a
      refine store_ok (X := X.suite a (X.pn ++ pins)) (v := .ref a) S4 hN hi hloc rfl (fun s5 S5 => ?_) (.inr hln)
      refine wpAny_mono ((hsu a cls d (X.pn ++ pins)).run [] s5 _ _ _ S5 (hyes rfl a na)) (fun f s6 hsp => ?_) (fun _ _ z => False.elim z)
      have end_ : ∀ {σ6 : St} {H6 : Hp} {Q : Shared → Prop}, Inv (X.suite a (X.pn ++ pins)) [] σ6 H6 s6 → (∀ s7, Inv X pins (σ6.set i none) H6 s7 → Q s7) →
          wpAny (model X.prog X.w) X.A (do bindName X.env n .none; unbindBehindTheSuite X.env n pos') (fun _ s7 => Q s7) X.xe s6 := fun {σ6 H6 Q} S6 hq => gone_ok (S6.unsuiteT ok) hN hi hln hq
      cases f with
      | next =>
        obtain ⟨σ6, H6, S6, q6⟩ := hsp
        exact end_ S6 fun s7 J7 => ⟨_, _, J7, q6⟩
      | brk =>
        obtain ⟨σ6, H6, S6, q6⟩ := hsp
        exact end_ S6 fun s7 J7 => ⟨_, _, J7, q6⟩
      | cont =>
        obtain ⟨σ6, H6, S6, q6⟩ := hsp
        exact end_ S6 fun s7 J7 => ⟨_, _, J7, q6⟩
      | ret u =>
        obtain ⟨v6, σ6, H6, S6, r6, q6⟩ := hsp
        exact end_ S6 fun s7 J7 => ⟨_, _, _, J7, r6, q6⟩
    | false =>
      show wpAny _ X.A (handleBy (.ref a) X.env []) _ _ _
      refine wpAny_handleBy_nil ?_
      obtain ⟨k1, k2, k3, oe, vs, T, oT, ts', he, hz, hd, h1, hr⟩ := id fl3
      unfold PySem.passOn
      refine wpAny_bind (wpAny_field he hd h1 ?_)
      rw [if_neg (show ¬ ((Value.ref T == Value.none) = true) from by simp)]
      have fin : wpAny (model X.prog X.w) X.A (setFlight (.ref a) X.env.frame) (fun _ s4 => wpAny (model X.prog X.w) X.A (throw (.ref a) : Sem Flow) (SP X pins D) X.xe s4) X.xe { s' with heap := h3 } := by
        rw [hf]
        refine HandSPX.setFlight_upZ fl3 fun h4 hh4 up4 => wpAny_throw (tk _ _ ?_)
        exact ⟨a, B, sI, pins, σ', H', cls, d, rfl, J, nb, (up.trans up3).trans up4, .inr (.inr (by rw [hs]; exact hh4)), na, os, ag, hno rfl⟩
      first
        | exact wpAny_bind (wpAny_pure (wpAny_bind fin))
        | exact wpAny_bind fin
  · cases f with
    | next =>
      obtain ⟨σ', H', J', q⟩ := hsp
      exact wpAny_execs_nil ⟨σ', H', J'.ofTry ok, q⟩
    | brk =>
      obtain ⟨σ', H', J', q⟩ := hsp
      exact ⟨σ', H', J'.ofTry ok, q⟩
    | cont =>
      obtain ⟨σ', H', J', q⟩ := hsp
      exact ⟨σ', H', J'.ofTry ok, q⟩
    | ret u =>
      obtain ⟨v, σ', H', J', r, q⟩ := hsp
      exact ⟨v, σ', H', J'.ofTry ok, r, q⟩
end
end L2
end
section
set_option Elab.async false
set_option maxRecDepth 100000
set_option linter.all false
set_option maxHeartbeats 4000000
namespace PySem.W
open PySem PySem.Spec PySem.Calls PyProof.Rows
section
variable {prog : Program} {w : World} {A : Around} {E : Value → Shared → Prop} {s : Shared} {K : Frag} {x D : Addr} {ox : Obj}
theorem findObj_dataT {C : Addr} {name : Str} {a g : Value} {od : Option Obj} (hc : (clsIn K C).isSome = true) (ha : findIn K (.ref C) name = some (some a)) (hg : specialIn K a "__get__" = some (some g)) (ht : takesIn K a = some true) : findObj K C od name = some (.bind g a) := by
  obtain ⟨cd, hc⟩ := Option.isSome_iff_exists.mp hc
  unfold findObj
  rw [hc, Option.bind_some, ha, Option.bind_some]
  simp [hg, ht]
theorem kin_classT {Q : Option Value → Shared → Prop} (hga : findIn K (.ref D) "__getattribute__" = some (some (.builtin "BaseException.__getattribute__"))) (hgt : findIn K (.ref D) "__getattr__" = some none) (hsub : subIn K (.ref D) (.type "BaseException") = some true)
    (hdct : hasDictIn K D = true) (ha : findIn K (.ref D) "__class__" = some (some (.builtin "object.__class__")))
    (hn : specialIn K (.builtin "object.__class__") "__get__" = some (some (.builtin "getset_descriptor.__get__"))) (htk : takesIn K (.builtin "object.__class__") = some true) (hm : mroIn K D (.type "object") = some true)
    {od : Option Obj} (X : K.In s.heap) (I : InstAt s.heap x ox D od) (h : Q (some (.ref D)) { s with toks := s.toks + 1 }) : wpAny (model prog w) A (getAttr? (.ref x) "__class__") Q E s := by
  have hf : findObj K D od "__class__" = some (.bind (.builtin "getset_descriptor.__get__") (.builtin "object.__class__")) := findObj_dataT (by obtain ⟨cd, hc, _⟩ := any_some hdct; rw [hc]; rfl) ha hn htk
  obtain ⟨hp, g, d, t, os⟩ := s
  have L0 := I.type (M := model prog w)
  have L1 := looks_findIn (M := model prog w) X hga
  have L2 := looks_findIn (M := model prog w) X hgt
  have L3 := looks_find (M := model prog w) X I hf
  have sub : Looks (model prog w) hp (isInstance (.ref x) (.type "BaseException")) true := L0.andThen (looks_subIn X hsub)
  have hx0 : (false && onTheHeap (Value.builtin "BaseException.__getattribute__")) = false := rfl
  have hx2 : (Value.builtin "BaseException.__getattribute__" == Value.builtin "object.__getattribute__") = false := by decide +kernel
  have hx1 : (onTheHeap (Value.ref D) && Value.builtin "BaseException.__getattribute__" == Value.builtin "object.__getattribute__") = false := by rw [hx2]; rfl
  unfold getAttr? getAttrBy? getAttrBy
  refine wpAny_bind (wpAny_mkText (wpAny_bind (wpAny_attempt (wpAny_holding (wpAny_bind (L0.at (wpAny_bind (L1.at ?_))))))))
  show wpAny _ _ (if (onTheHeap (Value.ref D) && Value.builtin "BaseException.__getattribute__" == Value.builtin "object.__getattribute__") = true then _ else _) _ _ _
  rw [hx1, if_neg Bool.false_ne_true]
  unfold getAttrByItsOwn hookBefore
  refine wpAny_bind ?_
  rw [if_pos (show onTheHeap (Value.ref D) = true from rfl)]
  refine L2.at ?_
  refine wpAny_bind (wpAny_attempt (wpAny_holding ?_))
  unfold callGetattribute
  rw [hx0, if_neg Bool.false_ne_true]
  unfold boundAndCalled
  rw [PySem.F.excAttr_ValueError.ga.bind (.ref x)]
  refine wpAny_bind (wpAny_pure ?_)
  show wpAny _ _ (call (.builtin "BaseException.__getattribute__") [.ref x, .str "__class__" t]) _ _ _
  refine wpAny_call (codeAny_call_builtin PySem.F.excAttr_ValueError.ga.plain PySem.F.entry_bexc_ga ?_)
  refine @check_slot (model prog w) _ _ ⟨hp, g, d, t + 1, os⟩ "BaseException.__getattribute__" "BaseException" "__getattribute__" (.ref x) [.str "__class__" t] [] _ (by decide +kernel) (by decide +kernel) sub (PySem.F.args_bexc_ga (.ref x) (.str "__class__" t)) ?_
  unfold Builtin.«object.__getattribute__»
  refine wpAny_bind (wpAny_of_eq (a := ((Value.ref x : Value), [Value.str "__class__" t])) (by first | rfl | (simp only [slotArgs]; rfl)) ?_)
  refine wpAny_bind (wpAny_pure (wpAny_bind (L0.at (wpAny_bind (L3.at ?_)))))
  show wpAny _ _ (holding [Value.builtin "object.__class__"] (call (.builtin "getset_descriptor.__get__") [.builtin "object.__class__", .ref x, .ref D]) >>= ret) _ _ _
  refine wpAny_bind (wpAny_holding (wpAny_call (class_get (s := ⟨hp, g, d, t + 1, os⟩) (ox := ox) (od := od) X I hm ?_)))
  refine wpAny_pure ?_
  show wpAny _ _ (handedOut (.ref D)) _ _ _
  rw [handedOut_of (v := .ref D) rfl]
  first
    | exact wpAny_pure (wpAny_pure h)
    | exact wpAny_pure h
    | exact wpAny_pure (wpAny_bind (wpAny_pure (wpAny_pure h)))
theorem kitx_excT (hga : findIn K (.ref D) "__getattribute__" = some (some (.builtin "BaseException.__getattribute__"))) (hgt : findIn K (.ref D) "__getattr__" = some none) (hsub : subIn K (.ref D) (.type "BaseException") = some true) (hdct : hasDictIn K D = true) (ha : findIn K (.ref D) "__class__" = some (some (.builtin "object.__class__")))
    (hn : specialIn K (.builtin "object.__class__") "__get__" = some (some (.builtin "getset_descriptor.__get__"))) (htk : takesIn K (.builtin "object.__class__") = some true) (hm : mroIn K D (.type "object") = some true) :
    KitX K (.ref x) (.ref D) (fun h => ∃ (ox : Obj) (od : Option Obj), InstAt h x ox D od) where
  ty := fun _ _ _ I => by
    obtain ⟨ox, od, I⟩ := I
    exact I.type
  it := fun _ _ X _ => by
    obtain ⟨cdD, hcD, _⟩ := any_some hdct
    unfold clsIn at hcD
    split at hcD
    · rename_i c' d' cd' sl' ho
      intro A' Q' E' s' k q
      unfold isType loadHead
      exact wpAny_bind (wpAny_loadPart (k _ _ (X _ _ ho)) (wpAny_pure q))
    · cases hcD
  ne := fun h tp dd its n sl X htp => by
    obtain ⟨cdD, hcD, _⟩ := any_some hdct
    refine Bool.eq_false_iff.mpr fun q => ?_
    have e : D = tp := Value.ref.inj (beq_iff_eq.mp q)
    subst e
    unfold clsIn at hcD
    split at hcD
    · rename_i c' d' cd' sl' ho
      have z := (X _ _ ho).symm.trans htp
      cases z
    · cases hcD
  ca := fun X I k => by
    obtain ⟨ox, od, I⟩ := I
    exact kin_classT hga hgt hsub hdct ha hn htk hm X I k
end
end PySem.W
namespace L2
open PySem PySem.Spec PyProof.Rows
section
variable {X : Cx} {pins : List (Addr × Obj)} {σ : St} {H : Hp} {s : Shared}
theorem exT_inst (I : Inv X pins σ H s) {a D : Addr} {d : Option Addr} {fs : List (Str × V)} (e : H a = some (ExT (.ref D) d a)) (hd : ∀ dd, d = some dd → H dd = some (.xd fs)) : ∃ (ox : Obj) (od : Option Obj), PySem.W.InstAt s.heap a ox D od := by
  obtain ⟨oe, vs, he, hz, hv⟩ := exT_at I.hok e
  cases d with
  | none => exact ⟨oe, none, he, hz.1, by unfold PySem.W.notCls; rw [hv] <;> rfl, by rw [hz.2]; trivial⟩
  | some dd =>
    have hx : ObjOk X.prog X.w H s.heap dd (.xd fs) := I.hok dd _ (hd dd rfl)
    obtain ⟨mA, hns, hr⟩ := hx
    obtain ⟨od, ho, hl⟩ := lookIn_ns hns
    exact ⟨oe, some od, he, hz.1, by unfold PySem.W.notCls; rw [hv] <;> rfl, by rw [hz.2]; exact ho⟩
/-- isinstance(e, c), e a kept error -/
def rIsT (K : PySem.W.Frag) : List V → Hp → VK → Prop := fun xs H Q => ∃ (a D dd : Addr) (fs : List (Str × V)) (c : V) (cv : Value) (b : Bool), xs = [.ref a, c] ∧ H a = some (ExT (.ref D) (some dd) a) ∧ H dd = some (.xd fs) ∧ ExcC K D ∧ (∀ u, RelV c u → u = cv) ∧ PySem.W.kitOne K (.ref D) cv = some b ∧ Q (.bl b) H
theorem call_isT {X : Cx} : CallR X (.builtin "isinstance") (rIsT X.K) := by
  intro pins s σ H xs us Q I r h
  obtain ⟨a, D, dd, fs, c, cv, b, rfl, e, ed, C, hcv, hb, q⟩ := h
  cases r with
  | cons rx rr =>
    cases rr with
    | cons rt rr =>
      cases rr
      cases rx
      have ec := hcv _ rt
      subst ec
      exact PySem.W.kia_one (PySem.W.kitx_excT C.hg C.hk C.hs C.hd C.ha C.hn C.ht C.hm) I.kIn (exT_inst I e (fun d' z => by cases z; exact ed)) hb (fun z => nomatch z) fun tk => ⟨.bl b, H, I.kept (t' := tk) fun _ _ z => z, rfl, q⟩
/-- isinstance(e, (c, ..)), e a kept error -/
def rIsTT (K : PySem.W.Frag) : List V → Hp → VK → Prop := fun xs H Q => ∃ (a D dd t : Addr) (fs : List (Str × V)) (cs : List Addr) (b : Bool), xs = [.ref a, .ref t] ∧ H a = some (ExT (.ref D) (some dd) a) ∧ H dd = some (.xd fs) ∧ ExcC K D ∧ H t = some (.tup (cs.map V.ref)) ∧ PySem.W.kitAny K (.ref D) (cs.map Value.ref) = some b ∧ Q (.bl b) H
theorem call_isTT {X : Cx} : CallR X (.builtin "isinstance") (rIsTT X.K) := by
  intro pins s σ H xs us Q I r h
  obtain ⟨a, D, dd, t, fs, cs, b, rfl, e, ed, C, ht, hb, q⟩ := h
  cases r with
  | cons rx rr =>
    cases rr with
    | cons rt rr =>
      cases rr
      cases rx
      cases rt
      obtain ⟨its, rv, ⟨ot, ho, hc, n, hd⟩, _⟩ := I.tuple (SqT.of (K := X.K) ht)
      have ei := LfX.refs_vals rv
      subst ei
      obtain ⟨c0, d0, dt0, sl0⟩ := ot
      dsimp only at hc hd
      subst hc
      subst hd
      exact PySem.W.kia_tup (PySem.W.kitx_excT C.hg C.hk C.hs C.hd C.ha C.hn C.ht C.hm) I.kIn (exT_inst I e (fun d' z => by cases z; exact ed)) ho hb (fun z => nomatch z) fun tk => ⟨.bl b, H, I.kept (t' := tk) fun _ _ z => z, rfl, q⟩
/-- e.f, e a kept error -/
def tXt (K : PySem.W.Frag) (f : Str) (te : TE) : TE := fun σ H Q => te σ H fun x H1 => ∃ (a C dd : Addr) (fs : List (Str × V)) (v : V), x = .ref a ∧ H1 a = some (ExT (.ref C) (some dd) a) ∧ H1 dd = some (.xd fs) ∧ XfC K C ∧ PySem.W.findIn K (.ref C) f = some none ∧ fs.lookup f = some v ∧ Q v H1
theorem pe_xt {X : Cx} {e : Expr} {te : TE} {pos : Pos} {n : Str} (he : PE X e te) (hb : attributeBase e n X.env (eval e X.env) = eval e X.env := by rfl) :
    PE X (.Attribute e n pos) (tXt X.K n te) := by
  refine ⟨fun pins s σ H Q I h => ?_⟩
  refine attr_of hb (thn (he.run pins s σ H _ I h) fun u s1 hh => ?_)
  obtain ⟨x, H1, I1, rx, a, C, dd, fs, v, ex, e, ea, T, hno, l, q⟩ := hh
  subst ex
  obtain rfl : u = Value.ref a := rx
  obtain ⟨oe, vs, ha, hz, hd⟩ := exT_at I1.hok e
  have hx : ObjOk X.prog X.w H1 s1.heap dd (.xd fs) := I1.hok dd _ ea
  obtain ⟨mA, hns, hr⟩ := hx
  obtain ⟨od, ho, hl⟩ := lookIn_ns hns
  obtain ⟨u, hu, ru⟩ := RelO.some_of (v := v) (o := mA n) (by rw [← l]; exact hr n)
  have J : PySem.W.InstAt s1.heap a oe C (some od) := ⟨ha, hz.1, by unfold PySem.W.notCls; rw [hd] <;> rfl, by rw [hz.2]; exact ho⟩
  exact HandSPX.exc_get I1.kIn J T.ga T.gg T.exC (PySem.W.findObj_own T.hdC hno rfl (by rw [hl, hu])) (handed_of ru) ⟨v, H1, I1.tok _, ru, q⟩
end
end L2
end
section
set_option Elab.async false
set_option maxRecDepth 100000
set_option linter.all false
/-! the least sets, or too many acts -/
namespace K2
open PySem PySem.W PySem.Calls L2 LfX PySem.Spec PyProof.Rows
abbrev sTMI : Stmt := inClass (top 4) 0
def spTMI (C : Addr) : Sp := fun vs H Q _ => ∃ (a : Addr) (v1 v2 : V), vs = [.ref a, v1, v2] ∧ H a = some (exo a C none) ∧
  ∀ (d : Addr) (H' : Hp), H d = none → d ≠ a → H' a = some (exo a C (some d)) → H' d = some (exd d [("most", v2), ("what", v1)]) → (∀ b o, H b = some o → b ≠ a → H' b = some o) → Q .non H'
structure TM (K : PySem.W.Frag) (mg : Str → Option Value) (C fI : Addr) : Prop where
  oex : OexC K C
  n1 : PySem.W.findIn K (.ref C) "what" = some none
  n2 : PySem.W.findIn K (.ref C) "most" = some none
  iC : PySem.W.findIn K (.ref C) "__init__" = some (some (.ref fI))
  tI : PySem.W.typeIn K (.ref fI) = some (.type "function")
  gC : mg "TooMany" = some (.ref C)
/-- the fields of the error -/
abbrev tmF : List (Str × V) := [("most", .int 8), ("what", .str "acts")]
theorem passF {P : Program} {w : World} {X : Cx} : Passes (L2.CX P w) X (fun _ _ _ => False) := fun _ _ _ _ _ _ _ h => by
  obtain ⟨_, _, _, _, _, _, _, _, _, _, _, _, hE⟩ := h
  exact hE.elim
section
variable {P : Program} {w : World} {K : PySem.W.Frag} {mg : Str → Option Value} {base : Heap}
theorem _root_.L2.FnOk.lift {k : Nat} {f : Addr} {fd : FuncData} {ps : List Str} {sp : Sp} (F : FnOk P w K mg base CX0 k f fd ps sp) : FnOk P w K mg base (L2.CX P w) k f fd ps sp :=
  ⟨F.len, fun A outer s H args us vs Q E hr he hb hv hs => codeAny_mono (F.run A outer s H args us vs Q E hr he hb hv hs) fun r s' hq => by
    cases r with
    | error e => exact hq.elim
    | ok fl => cases fl <;> exact hq⟩
/-- a promise that raises nothing where the error's wish is nothing -/
theorem _root_.L2.FnOk.calm {k : Nat} {f : Addr} {fd : FuncData} {ps : List Str} {sp sp' : Sp} (F : FnOk P w K mg base (L2.CX P w) k f fd ps sp) (h : ∀ vs H Q E, sp' vs H Q E → sp vs H Q (fun _ _ _ => False)) : FnOk P w K mg base CX0 k f fd ps sp' :=
  ⟨fun vs H Q E q => F.len vs H Q _ (h vs H Q E q), fun A outer s H args us vs Q E hr he hb hv hs => codeAny_mono (F.run A outer s H args us vs Q (fun _ _ _ => False) hr he hb hv (h vs H Q E hs)) fun r s' hq => by
    cases r with
    | error e =>
      obtain ⟨_, _, _, _, _, _, _, _, _, _, _, _, hE⟩ := (show L2.CX P w outer H s (fun _ _ _ => False) e s' from hq)
      exact hE.elim
    | ok fl => cases fl <;> exact hq⟩
theorem _root_.L2.FnR.calm {k : Nat} {f : Addr} {sp sp' : Sp} (F : FnR P w K mg base (L2.CX P w) k f sp) (h : ∀ vs H Q E, sp' vs H Q E → sp vs H Q (fun _ _ _ => False)) : FnR P w K mg base CX0 k f sp' :=
  fun A outer s H us vs Q E hr he hv hs => codeAny_mono (F A outer s H us vs Q (fun _ _ _ => False) hr he hv (h vs H Q E hs)) fun r s' hq => by
    cases r with
    | error e =>
      obtain ⟨_, _, _, _, _, _, _, _, _, _, _, _, hE⟩ := (show L2.CX P w outer H s (fun _ _ _ => False) e s' from hq)
      exact hE.elim
    | ok fl => cases fl <;> exact hq
theorem scTMI : FnScope ["self", "what", "most"] ["self", "what", "most"] (defScope sTMI) := ⟨rfl, rfl, rfl, by decide +kernel, rfl, by decide +kernel, by decide +kernel⟩
theorem ok_tmi {f C : Addr} {fd : FuncData} (F : Fun K "__init__" "TooMany.__init__" sTMI f fd) (M : TM K mg C f) : FnOk P w K mg base CX0 1 f fd ["self", "what", "most"] (spTMI C) := by
  refine F.ok scTMI (fun vs H Q E h => ?_) (fun cdv A outer s H vs Q E hr h => ?_)
  · obtain ⟨a, v1, v2, rfl, _⟩ := h
    rfl
  · obtain ⟨a, v1, v2, rfl, ha, k⟩ := h
    refine ⟨_, pss_cons (ps_ost (pv 0) (pv 1)) (pss_one (ps_ost (pv 0) (pv 2))), ?_⟩
    refine ⟨_, rfl, _, rfl, a, C, rfl, M.oex, M.n1, .inl ⟨ha, fun d hd hne => ?_⟩⟩
    have e1 : (upd (upd H d (exd d [("what", v1)])) a (exo a C (some d))) d = some (exd d [("what", v1)]) := by rw [upd_ne hne, upd_same]
    refine ⟨_, rfl, _, rfl, a, C, rfl, M.oex, M.n2, .inr ⟨d, _, upd_same, e1, (by show 1 ≤ 900; decide), ?_⟩⟩
    refine k d _ hd hne (by rw [upd_ne (Ne.symm hne), upd_same]) upd_same fun b o hb n => ?_
    rw [upd_ne (ne_of_none hb hd), upd_ne n, upd_ne (ne_of_none hb hd)]
    exact hb
end
/-- the keys of the dict are just these acts -/
structure TogX (P : Program) (w : World) (H : Hp) (d : Addr) (n : ASet) : Prop where
  ex : ∃ (xs : List LEnt) (bs : ASet), LDict P w H d xs ∧ Keys xs bs ∧ ∀ a, a ∈ bs ↔ a ∈ n
theorem TogX.wrL {P : Program} {w : World} {H : Hp} {d a : Addr} {n : ASet} {xs : List V} {o : HO} (h : TogX P w H d n) (ne : a ≠ d) (ha : H a = some (.lst xs)) : TogX P w (upd H a o) d n := by
  obtain ⟨xs, bs, D, k, i⟩ := h.ex
  refine ⟨xs, bs, ⟨(upd_ne (Ne.symm ne)).trans D.at_, fun x hx => ?_, D.sys, D.le⟩, k, i⟩
  exact (upd_ne (ne_of (D.keys x hx) ha (by intro z; cases z))).trans (D.keys x hx)
/-- sets that may be too many -/
structure OkB (cs : List ASet) : Prop where
  u : InU 16 cs
  g : ∀ c ∈ cs, GS c
  n : cs.length ≤ 10000
theorem OkC.b {cs : List ASet} (h : OkC cs) : OkB cs := ⟨h.u.mono (by decide), h.g, h.n⟩
theorem keep_stay (cs : List ASet) : ∀ {ks : List ASet} {k : ASet}, k ∈ ks → k ∈ cs.foldl stepK ks := by
  induction cs with
  | nil => intro ks k h; exact h
  | cons c cs ih =>
    intro ks k h
    rw [List.foldl_cons]
    refine ih ?_
    unfold LfX.stepK
    split
    · exact h
    · exact List.mem_append_left _ h
theorem inU_sub {n : Nat} {cs ds : List ASet} (h : InU n cs) (s : ∀ d ∈ ds, d ∈ cs) : InU n ds := let ⟨U, a, b⟩ := h; ⟨U, a, fun c hc => b c (s c hc)⟩
theorem inU_least {n : Nat} {cs : List ASet} (h : InU n cs) (g : ∀ c ∈ cs, GS c) : InU n (leastC cs) := inU_sub h fun d hd => least_mem (fun c hc => (g c hc).k) hd
def spLeB (P : Program) (w : World) (C CT : Addr) : Sp := fun vs H Q E => ∃ (t : Addr) (os : List Addr) (cs : List ASet), vs = [.ref t] ∧ H t = some (.tup (os.map V.ref)) ∧ SetsAt P w C H os cs ∧ OkB cs ∧
  (InU 8 (leastC cs) → ∀ (r : Addr) (ks : List Addr) (H' : Hp), Same H H' → H' r = some (.tup (ks.map V.ref)) → SetsAt P w C H' ks (leastC cs) → Q (.ref r) H') ∧
  (¬ InU 8 (leastC cs) → ∀ (d : Addr) (H' : Hp), Same H H' → H' d = some (.xd tmF) → E (.ref CT) (some d) H')
end K2
end
section
set_option Elab.async false
set_option maxRecDepth 100000
set_option linter.all false
/-! the least sets, or too many acts: the loop -/
namespace K2
open PySem PySem.W PySem.Calls L2 LfX PySem.Spec PyProof.Rows
section
variable {P : Program} {w : World} {K : PySem.W.Frag} {mg : Str → Option Value} {base : Heap} {C : Addr}
theorem scLeB : FnScope nLe ["sets"] (defScope sLe) := ⟨rfl, rfl, rfl, by decide +kernel, rfl, by decide +kernel, by decide +kernel⟩
set_option maxHeartbeats 1000000 in
theorem ok_leB {f fBo fIo fMk CT fI : Addr} {t1 : Tok} {fd fdBo fdIo fdMk fdI : FuncData} (F : Fun K "_least" "_least" sLe f fd) (Y : TxA K mg C) (T : Bi mg) (T_any : mg "any" = none) (mMA : mg "MOST_ACTS" = some (.int 8 t1))
    (BO : Df K mg "_bits_of" sBo fBo fdBo ["sets"]) (GBo : FnOk P w K mg base CX0 1 fBo fdBo ["sets"] (spBo P w C)) (IO : Df K mg "in_order_of_sets" sIO fIo fdIo ["sets"]) (GIo : FnOk P w K mg base CX0 6 fIo fdIo ["sets"] (spIO P w C))
    (MK : Df K mg "_mask" sMk fMk fdMk ["one", "bits"]) (GMk : FnOk P w K mg base CX0 1 fMk fdMk ["one", "bits"] (spMk P w C)) (M : TM K mg CT fI) (GI : FnOk P w K mg base CX0 1 fI fdI ["self", "what", "most"] (spTMI CT)) (bI : Binds K fdI ["self", "what", "most"] []) : FnOk P w K mg base (L2.CX P w) 7 f fd ["sets"] (spLeB P w C CT) := by
  refine F.okX scLeB (fun vs H Q E h => ?_) (fun cdv A outer s H vs Q E hr h => ?_)
  · obtain ⟨t, os, cs, rfl, _⟩ := h
    rfl
  · obtain ⟨t, os, cs, rfl, ht, S, ⟨hU, gs, lcs⟩, kQ, kE⟩ := h
    have hr6 : Room 6 _ := hr
    have hr1 : Room 1 _ := hr.mono (by decide)
    have hr2 : Room 2 _ := hr.mono (by decide)
    have hu := hu_of hr
    refine ⟨_, (pss_cons (ps_set (i := 1) scLeB.nd rfl (Or.inl rfl) (pe_call GBo hr1 (by rfl) BO.m BO.F.kp BO.b .nil pass0 (pa_cons (pv 0) pa_nil)))
      (pss_cons (ps_set (i := 2) scLeB.nd rfl (Or.inl rfl) (pe_lst pa_nil))
      (pss_cons (ps_set (i := 3) scLeB.nd rfl (Or.inl rfl) (pe_lst pa_nil))
      (pss_cons (ps_set (i := 4) scLeB.nd rfl (Or.inl rfl) (pe_dnewLw (P := P) (w := w) rfl rfl))
      (pss_cons (ps_for (passes_of rfl) rfl (pi_list (pe_call GIo hr6 (by rfl) IO.m IO.F.kp IO.b .nil pass0 (pa_cons (pv 0) pa_nil))) (pg_name (i := 5) scLeB.nd rfl (Or.inl rfl))
      (pss_cons (ps_set (i := 6) scLeB.nd rfl (Or.inr rfl) (pe_call GMk hr1 (by rfl) MK.m MK.F.kp MK.b .nil pass0 (pa_cons (pv 5) (pa_cons (pv 1) pa_nil))))
        (pss_cons (ps_if (pt_not (pt_val (pe_callB (cr_any rfl) (by rfl) T_any (by decide +kernel) (pa_cons (pe_lc (own := [("other", 7)]) (g := gName 7) (tt := tYes) rfl scLeB.nd (pi_list (pv 3)) (blkOk_by (N := nLe) (sc := defScope sLe) (by decide +kernel)) (fun _ _ _ _ _ => pg_name (i := 7) scLeB.nd rfl (Or.inl rfl)) (fun _ _ _ _ _ => pts_nil) (fun _ _ _ _ _ => pe_cmpR op_eq (pe_op op_and (pv 6) (pv 7)) (pv 7) (nomark _))) pa_nil))))
        (pss_cons (ps_expr (pe_bm PySem.F.plainAttrs_list PySem.F.slot_list_append PySem.F.type_list_append mt_append (pv 2) (pa_cons (pv 5) pa_nil)))
          (pss_cons (ps_expr (pe_bm PySem.F.plainAttrs_list PySem.F.slot_list_append PySem.F.type_list_append mt_append (pv 3) (pa_cons (pv 6) pa_nil)))
          (pss_one (ps_for (passes_of rfl) rfl (pi_tup (pe_fld (pv 5) rfl)) (pg_name (i := 8) scLeB.nd rfl (Or.inl rfl))
          (pss_one (ps_lput hu (pv 4) (pv 8) pe_bl rfl))))))
        pss_nil)
        (pss_one (ps_if (pt_cmpR op_gt (pe_callB call_len_L (by rfl) T.len (by decide +kernel) (pa_cons (pv 4) pa_nil)) (pe_glob (v := .int 8) rfl mMA ⟨_, rfl⟩) (nomark _))
        (pss_one (ps_raise rfl (takes_of rfl rfl rfl rfl) (pmk_oex M.oex M.iC M.tI GI hr2 bI .nil pass0 (by rfl) M.gC (pa_cons pe_str (pa_cons (pe_glob (v := .int 8) rfl mMA ⟨_, rfl⟩) pa_nil)))))
        pss_nil)))))
      (pss_one (ps_ret (pe_callTy call_tuple_of (by rfl) T.tuple (by decide +kernel) (pa_cons (pv 2) pa_nil))))))))), ?_⟩
    refine ⟨_, rfl, t, os, cs, rfl, ht, S, hU.mono (by decide), fun d bs H1 s1 nd1 B1 mb => ?_⟩
    refine ⟨Nat.zero_le _, fun kl hkl => ?_⟩
    have s2 : Same H1 (upd H1 kl (.lst [])) := (Same.refl H1).put hkl
    have e2 : (upd H1 kl (.lst [])) kl = some (.lst []) := upd_same
    generalize upd H1 kl (.lst []) = H2 at s2 e2 ⊢
    refine ⟨Nat.zero_le _, fun ml hml => ?_⟩
    have s3 : Same H2 (upd H2 ml (.lst [])) := (Same.refl H2).put hml
    have e3 : (upd H2 ml (.lst [])) ml = some (.lst []) := upd_same
    have nkm : kl ≠ ml := ne_of_none e2 hml
    generalize upd H2 ml (.lst []) = H3 at s3 e3 ⊢
    intro td htd tsys
    have s4 : Same H3 (upd H3 td (LfO P w td [])) := (Same.refl H3).put htd
    have M4 : TogX P w (upd H3 td (LfO P w td [])) td [] := ⟨[], [], ⟨upd_same, fun x hx => by simp at hx, tsys, Nat.zero_le _⟩, ⟨rfl, .nil⟩, fun a => Iff.rfl⟩
    have nkt : kl ≠ td := ne_of_none (s3 _ _ e2) htd
    have nmt : ml ≠ td := ne_of_none e3 htd
    generalize upd H3 td (LfO P w td []) = H4 at s4 M4 ⊢
    have s04 := ((s1.trans s2).trans s3).trans s4
    have nk0 : H kl = none := s1.free hkl
    have nm0 : H ml = none := (s1.trans s2).free hml
    have nt0 : H td = none := ((s1.trans s2).trans s3).free htd
    refine ⟨_, rfl, t, os, cs, rfl, s04 _ _ ht, S.same s04, fun c hc => ⟨(gs c hc).w, by have := set_len hU hc (gs c hc); omega⟩, fun l os' H5 s5 nl hl S5 => ?_⟩
    have e25 := s5 _ _ (s4 _ _ (s3 _ _ e2))
    have e35 := s5 _ _ (s4 _ _ e3)
    have p := sortC_perm cs
    have gs' : ∀ c ∈ sortC cs, GS c := fun c hc => gs c (p.mem_iff.mp hc)
    have inb : ∀ c ∈ sortC cs, ∀ a ∈ c, a ∈ bs := fun c hc a ha => (mb a).mpr ⟨c, p.mem_iff.mp hc, ha⟩
    have M5 : TogX P w H5 td [] := let ⟨xs, ys, D, a, b⟩ := M4.ex; ⟨xs, ys, D.mono s5, a, b⟩
    have s05 := s04.trans s5
    have s15 := ((s2.trans s3).trans s4).trans s5
    have nk1 : H1 kl = none := hkl
    have nm1 : H1 ml = none := s2.free hml
    have nt1 : H1 td = none := (s2.trans s3).free htd
    have B5 := B1.same (((s2.trans s3).trans s4).trans s5)
    have lsc : (sortC cs).length ≤ 10000 := by rw [p.length_eq]; exact lcs
    have nkl : kl ≠ l := fun e => by rw [← e] at nl; rw [s4 _ _ (s3 _ _ e2)] at nl; cases nl
    have nml : ml ≠ l := fun e => by rw [← e] at nl; rw [s4 _ _ e3] at nl; cases nl
    have ntl : td ≠ l := fun e => by obtain ⟨xs, ys, D, _⟩ := M4.ex; rw [← e] at nl; rw [D.at_] at nl; cases nl
    refine ⟨l, rfl, ⟨_, SqL.of hl⟩, ?_⟩
    have SH := S5 H S
    refine for_list (K := K) (a := l) (xs := os'.map V.ref) (fun i σ Hc => ∃ (v5 v6 v7 v8 : Option V) (kos : List Addr), σ = [some (.ref t), some (.ref d), some (.ref kl), some (.ref ml), some (.ref td), v5, v6, v7, v8] ∧ Hc kl = some (.lst (kos.map V.ref)) ∧ SetsAt P w C H kos (((sortC cs).take i).foldl stepK []) ∧
      Hc ml = some (.lst ((((sortC cs).take i).foldl stepK []).map fun k => V.int ((maskN bs k : Nat) : Int))) ∧ TogX P w Hc td ((((sortC cs).take i).foldl stepK []).flatten) ∧ InU 8 (((sortC cs).take i).foldl stepK []) ∧ Same H1 Hc ∧ Hc l = some (.lst (os'.map V.ref))) ?_ ?_ ?_ ?_
    · exact ⟨_, _, _, _, [], rfl, e25, SetsAt.nil, e35, M5, ⟨[], Nat.zero_le _, fun c h => by simp at h⟩, s15, hl⟩
    · rintro i σ Hc _ ⟨v5, v6, v7, v8, kos, rfl, _, _, _, _, _, _, hlc⟩
      exact SqL.of hlc
    · rintro i x σ Hc hx ⟨v5, v6, v7, v8, kos, rfl, hk, SK, hm, TM, _, sm1, hlc⟩
      have sm := s1.trans sm1
      have BC := B1.same sm1
      obtain ⟨o, c, rfl, hc, ho, AH, hi⟩ := SH.nth hx
      have hcm := List.mem_of_getElem? hc
      have et : (sortC cs).take (i + 1) = (sortC cs).take i ++ [c] := by rw [List.take_add_one, hc]; rfl
      have A0 := AH.same sm
      have gc := gs' c hcm
      have kin : ∀ k ∈ ((sortC cs).take i).foldl stepK [], k ∈ sortC cs := fun k hk => (keep_mem hk).elim (fun z => by simp at z) fun z => List.mem_of_mem_take z
      have kln : (((sortC cs).take i).foldl stepK []).length ≤ 10000 := by
        have h1 := keep_len ((sortC cs).take i) []
        rw [List.length_take, List.length_nil] at h1
        omega
      have es : ((sortC cs).take (i + 1)).foldl stepK [] = LfX.stepK (((sortC cs).take i).foldl stepK []) c := by rw [et, List.foldl_append]; rfl
      have wide : ∀ bs' : ASet, bs'.Nodup → (∀ a ∈ bs', a ∈ (((sortC cs).take (i + 1)).foldl LfX.stepK []).flatten) → 8 < bs'.length → ¬ InU 8 (leastC cs) := fun bs' nd sub h8 hin => by
        obtain ⟨U, u1, u2⟩ := hin
        have ef : leastC cs = ((sortC cs).drop (i + 1)).foldl LfX.stepK (((sortC cs).take (i + 1)).foldl LfX.stepK []) := by
          rw [← List.foldl_append, List.take_append_drop]; rfl
        have := nd.length_le_of_subset (l₂ := U) fun a ha => by
          obtain ⟨c', hc', ha'⟩ := List.mem_flatten.mp (sub a ha)
          exact u2 c' (by rw [ef]; exact keep_stay _ hc') a ha'
        omega
      generalize ((sortC cs).take i).foldl stepK [] = ks at SK hm kin kln es TM
      refine ⟨_, rfl, _, rfl, o, d, c, bs, rfl, A0, BC, inb c hcm, ?_⟩
      refine ⟨_, rfl, ml, rfl, ⟨_, SqL.of hm⟩, fun D hD => ?_⟩
      refine lc_list (K := K) (a := ml) (xs := ks.map fun k => V.int ((maskN bs k : Nat) : Int)) (fun j Hd => Hd D = some (.lst (((ks.take j).map fun k => decide (SubS k c)).map V.bl)) ∧ Same Hc Hd) ?_ ?_ ?_ ?_
      · exact ⟨upd_same, (Same.refl _).put hD⟩
      · rintro j Hd _ ⟨_, sd⟩
        exact SqL.of (sd _ _ hm)
      · rintro j y Hd hy ⟨hDl, sd⟩
        rw [List.getElem?_map] at hy
        cases hkj : ks[j]? with
        | none => rw [hkj] at hy; cases hy
        | some k =>
          rw [hkj] at hy
          cases hy
          have hkm := kin k (List.mem_of_getElem? hkj)
          have ek : ks.take (j + 1) = ks.take j ++ [k] := by rw [List.take_add_one, hkj]; rfl
          have jl := (List.getElem?_eq_some_iff.mp hkj).1
          refine ⟨rfl, _, rfl, _, rfl, _, _, rfl, rfl, _, rfl, rfl, _, hDl, ?_, ?_, sd.put hD⟩
          · rw [List.length_map, List.length_map, List.length_take]; show _ < 16777216; omega
          · have e : decide (V.int (Builtin.bitAnd ((maskN bs c : Nat) : Int) ((maskN bs k : Nat) : Int)) = V.int ((maskN bs k : Nat) : Int)) = decide (SubS k c) := by
              rw [band_nat]
              refine decide_eq_decide.mpr ⟨fun z => (mask_sub (inb k hkm)).mp (by have := V.int.inj z; omega), fun z => by rw [(mask_sub (inb k hkm)).mpr z]⟩
            rw [upd_same, ek, List.map_append, List.map_append]
            show some (HO.lst (_ ++ [V.bl (decide (V.int (Builtin.bitAnd ((maskN bs c : Nat) : Int) ((maskN bs k : Nat) : Int)) = V.int ((maskN bs k : Nat) : Int)))])) = _
            rw [e]
            rfl
      rintro Hd ⟨hDl, sd⟩
      rw [List.length_map, List.take_length] at hDl
      refine ⟨D, _, rfl, SqL.of hDl, ?_⟩
      have ea : ((ks.map fun k => decide (SubS k c)).any id) = ks.any fun k => decide (SubS k c) := by rw [List.any_map]; rfl
      rw [ea]
      refine ⟨_, rfl, ?_⟩
      have l16 : ∀ bs' : ASet, bs'.Nodup → (∀ a ∈ bs', a ∈ ks.flatten ∨ a ∈ c) → bs'.length ≤ 16 := fun bs' nd sub => let ⟨U, hU1, hU2⟩ := hU; Nat.le_trans (nd.length_le_of_subset fun a ha => (sub a ha).elim (fun h => let ⟨c', hc', ha'⟩ := List.mem_flatten.mp h; hU2 c' (p.mem_iff.mp (kin c' hc')) a ha') fun h => hU2 c (p.mem_iff.mp hcm) a h) hU1
      have sd1 := sm1.trans sd
      have nDk : kl ≠ D := ne_of_none hk hD
      have nDm : ml ≠ D := ne_of_none hm hD
      have nDl : l ≠ D := ne_of_none hlc hD
      have TMd : TogX P w Hd td ks.flatten := let ⟨xs, ys, D, a, b⟩ := TM.ex; ⟨xs, ys, D.mono sd, a, b⟩
      have hkd := sd _ _ hk
      have hmd := sd _ _ hm
      have hld := sd _ _ hlc
      cases hb : ks.any fun k => decide (SubS k c) with
      | true =>
        have ek : LfX.stepK ks c = ks := by unfold LfX.stepK; rw [hb]; rfl
        refine iteF ?_
        obtain ⟨xs', bs', LD', KB', ib'⟩ := TMd.ex
        refine ⟨_, rfl, td, xs', rfl, LD', _, _, rfl, rfl, _, rfl, ite2 (fun hg => ?_) (fun hg => ?_)⟩
        · have h8 := of_decide_eq_true hg
          rw [keys_len KB'] at h8
          have hw := wide bs' KB'.2 (fun a ha => by rw [es, ek]; exact (ib' a).mp ha) (by omega)
          have s0d : Same H Hd := s1.trans sd1
          refine ⟨(by show 2 ≤ 1000; decide), fun a ha => ⟨a, _, _, rfl, upd_same, fun d3 H' hd3 hne e1 e2 k => ?_⟩⟩
          rw [upd_ne hne] at hd3
          refine ⟨rfl, d3, _, e1, e2, hd3, kE hw d3 _ (fun b o hb => ?_) upd_same⟩
          have hb2 := s0d b _ hb
          have n1 := ne_of_none hb2 hd3
          have n2 := ne_of_none hb2 ha
          rw [upd_ne n1, del_ne n2]
          exact k b o (by rw [upd_ne n2]; exact hb2) n2
        have h8 : ¬ ((8 : Int) < ((xs'.length : Nat) : Int)) := fun z => hg (decide_eq_true z)
        rw [keys_len KB'] at h8
        refine ⟨_, _, _, _, kos, rfl, hkd, ?_, ?_, ?_, ⟨bs', by omega, fun k hk a ha => (ib' a).mpr (List.mem_flatten.mpr ⟨k, by rw [es, ek] at hk; exact hk, ha⟩)⟩, sd1, hld⟩
        · rw [es, ek]; exact SK
        · rw [es, ek]; exact hmd
        · rw [es, ek]; exact TMd
      | false =>
        have ek : LfX.stepK ks c = ks ++ [c] := by unfold LfX.stepK; rw [hb]; rfl
        refine iteT ?_
        refine ⟨_, rfl, .inl ⟨rfl, _, SqL.of hkd⟩, _, rfl, kl, _, _, rfl, rfl, hkd, (by rw [List.length_map, SK.1]; show _ < 16777216; omega), ?_⟩
        have sk : Same H1 (upd Hd kl (.lst (kos.map V.ref ++ [.ref o]))) := same_wr sd1 nk1
        have nkm1 : ml ≠ kl := Ne.symm nkm
        have ek1 : (upd Hd kl (.lst (kos.map V.ref ++ [.ref o]))) kl = some (.lst (kos.map V.ref ++ [.ref o])) := upd_same
        have em1 : (upd Hd kl (.lst (kos.map V.ref ++ [.ref o]))) ml = some _ := (upd_ne nkm1).trans hmd
        have el1 : (upd Hd kl (.lst (kos.map V.ref ++ [.ref o]))) l = some _ := (upd_ne (Ne.symm nkl)).trans hld
        have TM1 : TogX P w (upd Hd kl (.lst (kos.map V.ref ++ [.ref o]))) td ks.flatten := TMd.wrL nkt hkd
        generalize upd Hd kl (.lst (kos.map V.ref ++ [.ref o])) = G1 at sk ek1 em1 el1 TM1 ⊢
        refine ⟨_, rfl, .inl ⟨rfl, _, SqL.of em1⟩, _, rfl, ml, _, _, rfl, rfl, em1, (by rw [List.length_map]; show _ < 16777216; omega), ?_⟩
        have sk2 : Same H1 (upd G1 ml (.lst ((ks.map fun k => V.int ((maskN bs k : Nat) : Int)) ++ [.int ((maskN bs c : Nat) : Int)]))) := same_wr sk nm1
        have ek2 : (upd G1 ml (.lst ((ks.map fun k => V.int ((maskN bs k : Nat) : Int)) ++ [.int ((maskN bs c : Nat) : Int)]))) kl = some _ := (upd_ne nkm).trans ek1
        have em2 : (upd G1 ml (.lst ((ks.map fun k => V.int ((maskN bs k : Nat) : Int)) ++ [.int ((maskN bs c : Nat) : Int)]))) ml = some (.lst ((ks.map fun k => V.int ((maskN bs k : Nat) : Int)) ++ [.int ((maskN bs c : Nat) : Int)])) := upd_same
        have el2 : (upd G1 ml (.lst ((ks.map fun k => V.int ((maskN bs k : Nat) : Int)) ++ [.int ((maskN bs c : Nat) : Int)]))) l = some _ := (upd_ne (Ne.symm nml)).trans el1
        have TM2 : TogX P w (upd G1 ml (.lst ((ks.map fun k => V.int ((maskN bs k : Nat) : Int)) ++ [.int ((maskN bs c : Nat) : Int)]))) td ks.flatten := TM1.wrL nmt em1
        generalize upd G1 ml (.lst ((ks.map fun k => V.int ((maskN bs k : Nat) : Int)) ++ [.int ((maskN bs c : Nat) : Int)])) = G2 at sk2 ek2 em2 el2 TM2 ⊢
        have A2 := AH.same (s1.trans sk2)
        obtain ⟨dx, d', r, ys, qs, a1, a2, a3, a4, a5⟩ := id A2
        refine ⟨_, rfl, o, C, dx, _, _, rfl, a1, Y.cl, Y.nR, fldA_rows _ _, r, rfl, ⟨_, SqT.of a4⟩, ?_⟩
        refine for_tup (K := K) (a := r) (xs := qs.map V.ref) (fun j σ Hx => ∃ v8 : Option V, σ = [some (.ref t), some (.ref d), some (.ref kl), some (.ref ml), some (.ref td), some (.ref o), some (.int ((maskN bs c : Nat) : Int)), v7, v8] ∧ Hx kl = some (.lst (kos.map V.ref ++ [.ref o])) ∧ Hx ml = some (.lst ((ks.map fun k => V.int ((maskN bs k : Nat) : Int)) ++ [.int ((maskN bs c : Nat) : Int)])) ∧ Hx l = some (.lst (os'.map V.ref)) ∧ TogX P w Hx td (ks.flatten ++ c.take j) ∧ Same H1 Hx ∧ Hx r = some (.tup (qs.map V.ref)) ∧ ActsAt Hx qs c) ?_ ?_ ?_ ?_
        · exact ⟨_, rfl, ek2, em2, el2, by rw [List.take_zero, List.append_nil]; exact TM2, sk2, a4, a5⟩
        · rintro j σ Hx _ ⟨v8, rfl, _, _, _, _, _, hr4, _⟩
          exact SqT.of hr4
        · rintro j x σ Hx hx ⟨v8, rfl, x1, x2, x3, TMx, sx, hr4, hr5⟩
          obtain ⟨q, b, rfl, hbc, hqi, hqb, hj⟩ := acts_nth hr5 hx
          obtain ⟨xs, bs2, LD, KB, ib⟩ := TMx.ex
          have hq2 := hqb
          rw [← act_leaves] at hq2
          have h8 := l16 bs2 KB.2 fun a ha => (List.mem_append.mp ((ib a).mp ha)).imp id List.mem_of_mem_take
          have et2 : c.take (j + 1) = c.take j ++ [b] := by rw [List.take_add_one, hbc]; rfl
          have xl := keys_len KB
          have hz : xs.length < sizeLine := by rw [xl]; show _ < 16777216; omega
          have tnx : ∀ z ys, Hx z = some (.tup ys) → z ≠ td := fun z ys e q => by rw [q, LD.at_] at e; cases e
          have ntx : ∀ z ys, Hx z = some (.lst ys) → z ≠ td := fun z ys e q => by rw [q, LD.at_] at e; cases e
          refine ⟨_, rfl, _, rfl, td, q, actL b, xs, rfl, rfl, hq2, LD, hz, fun r0 _ => ?_⟩
          have TN : TogX P w (upd Hx td (LfO P w td (storedH xs (actL b) q r0))) td (ks.flatten ++ c.take (j + 1)) := by
            rw [et2, ← List.append_assoc]
            by_cases hin : b ∈ bs2
            · obtain ⟨e1, LD2⟩ := LD.again (q := q) (r := r0) ((KB.mem b).mpr hin)
              exact ⟨_, bs2, LD2, ⟨e1.trans KB.1, KB.2⟩, fun a => ⟨fun ha => List.mem_append_left _ ((ib a).mp ha), fun ha => (List.mem_append.mp ha).elim (ib a).mpr fun h => by rw [List.mem_singleton.mp h]; exact hin⟩⟩
            · obtain ⟨e1, LD2⟩ := LD.stored (q := q) (r := r0) hq2 hz fun z => hin ((KB.mem b).mp z)
              rw [e1]
              refine ⟨_, bs2 ++ [b], LD2, ⟨by rw [List.map_append, List.map_append, KB.1]; rfl, List.nodup_append.mpr ⟨KB.2, by simp, fun x hx y hy e => ?_⟩⟩, fun a => ?_⟩
              · rw [List.mem_singleton.mp hy] at e
                exact hin (e ▸ hx)
              · rw [List.mem_append, List.mem_append, ib a]
          exact ⟨_, rfl, (upd_ne nkt).trans x1, (upd_ne nmt).trans x2, (upd_ne (Ne.symm ntl)).trans x3, TN, same_wr sx nt1, (upd_ne (tnx _ _ hr4)).trans hr4, hr5.mono fun z ys e => (upd_ne (tnx _ _ e)).trans e⟩
        · rintro σ Hx ⟨v8, rfl, x1, x2, x3, TMx, sx, hr4, hr5⟩
          rw [List.length_map, hr5.1, List.take_length] at TMx
          have ef : (ks ++ [c]).flatten = ks.flatten ++ c := by simp
          rw [← ef] at TMx
          obtain ⟨xs', bs', LD', KB', ib'⟩ := TMx.ex
          refine ⟨_, rfl, td, xs', rfl, LD', _, _, rfl, rfl, _, rfl, ite2 (fun hg => ?_) (fun hg => ?_)⟩
          · have h8 := of_decide_eq_true hg
            rw [keys_len KB'] at h8
            have hw := wide bs' KB'.2 (fun a ha => by rw [es, ek]; exact (ib' a).mp ha) (by omega)
            have s0d : Same H Hx := s1.trans sx
            refine ⟨(by show 2 ≤ 1000; decide), fun a ha => ⟨a, _, _, rfl, upd_same, fun d3 H' hd3 hne e1 e2 k => ?_⟩⟩
            rw [upd_ne hne] at hd3
            refine ⟨rfl, d3, _, e1, e2, hd3, kE hw d3 _ (fun b o hb => ?_) upd_same⟩
            have hb2 := s0d b _ hb
            have n1 := ne_of_none hb2 hd3
            have n2 := ne_of_none hb2 ha
            rw [upd_ne n1, del_ne n2]
            exact k b o (by rw [upd_ne n2]; exact hb2) n2
          have h8 : ¬ ((8 : Int) < ((xs'.length : Nat) : Int)) := fun z => hg (decide_eq_true z)
          rw [keys_len KB'] at h8
          refine ⟨_, _, _, _, kos ++ [o], rfl, ?_, ?_, ?_, ?_, ⟨bs', by omega, fun k hk a ha => (ib' a).mpr (List.mem_flatten.mpr ⟨k, by rw [es, ek] at hk; exact hk, ha⟩)⟩, sx, x3⟩
          · rw [List.map_append]; exact x1
          · rw [es, ek]; exact SK.snoc AH
          · rw [es, ek, List.map_append]; exact x2
          · rw [es, ek]; exact TMx
    · rintro σ Hc ⟨v5, v6, v7, v8, kos, rfl, hk, SK, hm, TM, h8, sm1, hlc⟩
      have sm := s1.trans sm1
      have BC := B1.same sm1
      rw [List.length_map, SH.1, List.take_length] at SK h8
      refine ⟨_, rfl, kl, _, rfl, .inl ⟨SqL.of hk, fun r hr0 => ?_⟩⟩
      have sr := sm.trans ((Same.refl Hc).put (o := .tup (kos.map V.ref)) hr0)
      exact kQ h8 r kos _ sr upd_same (SK.same sr)
end
end K2
end
section
set_option Elab.async false
set_option maxRecDepth 100000
set_option linter.all false
/-! demands made, joined: or too many acts -/
namespace K2
open PySem PySem.W PySem.Calls L2 LfX PySem.Spec PyProof.Rows
theorem any_it {J : It} {n : Nat} {G : Hp → Prop} {Y : Nat → Hp → V → Hp → Prop} (w : Walk J n G Y) {B : (Hp → Prop) → V → Hp → Prop} {H0 : Hp} {Qd : Hp → Prop} (Pv : Nat → Hp → Prop) (h0 : Pv 0 H0) (hG : ∀ i H, i ≤ n → Pv i H → G H)
    (hs : ∀ i x H H', i < n → Pv i H → Y i H x H' → B (Pv (i + 1)) x H') (hd : ∀ H, Pv n H → Qd H) :
    ∃ W : Nat → Nat → Hp → Prop, (∃ m, W 0 m H0) ∧ ∀ i m H, W i m H → (J.stop i H ∧ Qd H) ∨ (J.go i H ∧ ∃ Nx : Hp → Prop, (∀ H', Nx H' → ∃ m', m' < m ∧ W (i + 1) m' H') ∧ ∀ x H', J.yld i H x H' → B Nx x H') := by
  refine ⟨fun i m H => m = n - i ∧ i ≤ n ∧ Pv i H, ⟨n, rfl, Nat.zero_le _, h0⟩, ?_⟩
  rintro i m H ⟨rfl, hi, p⟩
  by_cases lt : i < n
  · exact .inr ⟨w.goes i H lt (hG i H hi p), Pv (i + 1), fun H' p' => ⟨n - (i + 1), by omega, rfl, lt, p'⟩, fun x H' y => hs i x H H' lt p (w.yields i H x H' lt (hG i H hi p) y)⟩
  · obtain rfl : i = n := by omega
    exact .inl ⟨w.stops H (hG _ H hi p), hd H p⟩
theorem pi_tupK {X : Cx} {K' : PySem.W.Frag} {tg l : Expr} {tl : TE} (hK : X.K = K') (hl : PE X l tl) : PI X tg l (iTup K' tl) := by
  subst hK
  exact pi_tup hl
abbrev sDo : Stmt := inClass (top 16) 9
abbrev sDA : Stmt := inClass (top 16) 10
abbrev nDo : List Str := ["self", "other", "sets"]
abbrev nDA : List Str := ["self", "other", "sets", "one", "two"]
/-- what is made of sets: demands, or the error -/
def OutD (P : Program) (w : World) (C D CT : Addr) (cs : List ASet) (H : Hp) (Q : VK) (E : XK) : Prop :=
  (InU 8 (leastC cs) → ∀ (r : Addr) (H' : Hp), DmW P w C D H' r (leastC cs) → Same H H' → Q (.ref r) H') ∧
  (¬ InU 8 (leastC cs) → ∀ (d : Addr) (H' : Hp), Same H H' → H' d = some (.xd tmF) → E (.ref CT) (some d) H')
theorem OutD.same {P : Program} {w : World} {C D CT : Addr} {cs : List ASet} {H H' : Hp} {Q : VK} {E : XK} (h : OutD P w C D CT cs H Q E) (s : Same H H') : OutD P w C D CT cs H' Q E :=
  ⟨fun i r H2 d s2 => h.1 i r H2 d (s.trans s2), fun i d H2 s2 e => h.2 i d H2 (s.trans s2) e⟩
def spDiB (P : Program) (w : World) (C D CT : Addr) : Sp := fun vs H Q E => ∃ (p dx rt : Addr) (os : List Addr) (cs : List ASet), vs = [.ref p, .ref rt] ∧ H p = some (.ins D dx []) ∧ H rt = some (.tup (os.map V.ref)) ∧ SetsAt P w C H os cs ∧ OkB cs ∧
  (InU 8 (leastC cs) → ∀ (H' : Hp), DmW P w C D H' p (leastC cs) → (∀ b o, H b = some o → b ≠ p → H' b = some o) → Q .non H') ∧
  (¬ InU 8 (leastC cs) → ∀ (d : Addr) (H' : Hp), Same H H' → H' d = some (.xd tmF) → E (.ref CT) (some d) H')
def spDiBR (P : Program) (w : World) (C D CT : Addr) : Sp := fun vs H Q E => ∃ ws rest, vs = ws ++ rest ∧ ws.length = 1 ∧ rest.length ≤ sizeLine ∧ ∀ p, H p = none → spDiB P w C D CT (ws ++ [V.ref p]) (upd H p (.tup rest)) Q E
theorem initB {P : Program} {w : World} {C D CT : Addr} {H : Hp} {os : List Addr} {cs : List ASet} {Q : VK} {E : XK} (S : SetsAt P w C H os cs) (g : OkB cs) (k : OutD P w C D CT cs H Q E) :
    ∀ x dx, H x = none → H dx = none → dx ≠ x → spDiBR P w C D CT (V.ref x :: os.map V.ref) (upd (upd H dx (.own x)) x (.ins D dx [])) (fun v H2 => v = .non ∧ Q (.ref x) H2) E := by
  intro x dx nx ndx ne
  refine ⟨[V.ref x], _, rfl, rfl, ?_, fun pt hpt => ?_⟩
  · rw [List.length_map, S.1]; have := g.n; show _ ≤ 16777216; omega
  have s1 : Same H (upd (upd H dx (.own x)) x (.ins D dx [])) := ((Same.refl H).put ndx).put nx
  have s2 : Same H (upd (upd (upd H dx (.own x)) x (.ins D dx [])) pt (.tup (os.map V.ref))) := s1.put (s1.free hpt)
  exact ⟨x, dx, pt, os, cs, rfl, by rw [upd_ne (ne_of_none upd_same hpt), upd_same], upd_same, S.same s2, g, fun i H' cl kp => ⟨rfl, k.1 i x H' cl fun b o e => kp b o (s2 b o e) (ne_of_none e nx)⟩, fun i d H' s e => k.2 i d H' (s2.trans s) e⟩
def spDmB (P : Program) (w : World) (C D CT : Addr) : Sp := fun vs H Q E => ∃ (l : Addr) (os : List Addr) (cs : List ASet), vs = [.ref D, .ref l] ∧ H l = some (.lst (os.map V.ref)) ∧ SetsAt P w C H os cs ∧ OkB cs ∧ OutD P w C D CT cs H Q E
/-- each with each -/
def pairL (ks ls : List ASet) : List ASet := ks.flatMap fun k => ls.map fun l => lawSort (k ++ l)
def spDo (P : Program) (w : World) (C D CT : Addr) : Sp := fun vs H Q E => ∃ (o q : Addr) (ks ls : List ASet), vs = [.ref o, .ref q] ∧ DmW P w C D H o ks ∧ DmW P w C D H q ls ∧ OkB (ks ++ ls) ∧ OutD P w C D CT (ks ++ ls) H Q E
def spDA (P : Program) (w : World) (C D CT : Addr) : Sp := fun vs H Q E => ∃ (o q : Addr) (ks ls : List ASet), vs = [.ref o, .ref q] ∧ DmW P w C D H o ks ∧ DmW P w C D H q ls ∧ (∀ c ∈ ks, AllW c ∧ c.length ≤ 400) ∧ (∀ c ∈ ls, AllW c ∧ c.length ≤ 400) ∧ ks.length ≤ 1000 ∧ ls.length ≤ 1000 ∧ OkB (pairL ks ls) ∧ OutD P w C D CT (pairL ks ls) H Q E
section
variable {P : Program} {w : World} {K : PySem.W.Frag} {mg : Str → Option Value} {base : Heap} {C D CT f : Addr} {fd : FuncData}
theorem scDo : FnScope nDo ["self", "other"] (defScope sDo) := ⟨rfl, rfl, rfl, by decide +kernel, rfl, by decide +kernel, by decide +kernel⟩
theorem scDA : FnScope nDA ["self", "other"] (defScope sDA) := ⟨rfl, rfl, rfl, by decide +kernel, rfl, by decide +kernel, by decide +kernel⟩
theorem ok_diB {fLe : Addr} {fdLe : FuncData} (F : Fun K "__init__" "Demands.__init__" sDi f fd) (Y : TxD K mg D) (LE : Df K mg "_least" sLe fLe fdLe ["sets"]) (GLe : FnOk P w K mg base (L2.CX P w) 7 fLe fdLe ["sets"] (spLeB P w C CT)) : FnR P w K mg base (L2.CX P w) 8 f (spDiBR P w C D CT) := by
  obtain ⟨oc, od, kV, doc, pm, an, cdv, ct, osl, rfl, lk, hcd⟩ := F.ex
  refine StX.fn_star (ps := ["self"]) (pv := "sets") lk hcd scDi StX.cxUp (di_bind kV doc pm an cdv ct) fun A outer s H vs Q E hr h => ?_
  obtain ⟨p, dx, rt, os, cs, rfl, hp, ht, S, g, kQ, kE⟩ := h
  have hr7 : Room 7 _ := hr
  refine ⟨_, pss_one (ps_fld (pv 0) (pe_call GLe hr7 (by rfl) LE.m LE.F.kp LE.b .nil (passes_call (takes_of rfl rfl rfl rfl) fun _ _ _ _ h => h) (pa_cons (pv 1) pa_nil)) rfl), ?_⟩
  refine ⟨_, rfl, rt, os, cs, rfl, ht, S, g, fun i r ks H1 s1 hr1 S1 => ?_, fun i d H' s' e => kE i d H' s' e⟩
  have hp1 := s1 _ _ hp
  have np : r ≠ p := ne_of hr1 hp1 (by intro z; cases z)
  refine ⟨_, rfl, p, D, dx, _, rfl, hp1, Y.cl, Y.nS, (by show 0 < 1000; decide), ?_⟩
  exact kQ i _ ⟨dx, r, ks, upd_same, by rw [upd_ne np]; exact hr1, S1.wr hp1⟩ fun b o e n => by rw [upd_ne n]; exact s1 _ _ e
theorem ok_dmB {fI : Addr} (F : Fun K "made" "Demands.made" sDm f fd) (M : Mk K D fI) (GI : FnR P w K mg base (L2.CX P w) 8 fI (spDiBR P w C D CT)) : FnOk P w K mg base (L2.CX P w) 10 f fd ["cls", "sets"] (spDmB P w C D CT) := by
  refine F.okX scDm (fun vs H Q E h => ?_) (fun cdv A outer s H vs Q E hr h => ?_)
  · obtain ⟨l, os, cs, rfl, _⟩ := h
    rfl
  · obtain ⟨l, os, cs, rfl, hl, S, g, k⟩ := h
    have hr9 : Room 9 _ := hr
    refine ⟨_, (pss_one (ps_ret (pe_makeL (i := 0) M GI hr9 rfl (Or.inl rfl) (passes_call (takes_of rfl rfl rfl rfl) fun _ _ _ _ h => h) (pv 1)))), ?_⟩
    exact ⟨rfl, _, rfl, l, _, rfl, .inr (SqL.of hl), initB S g k⟩
theorem ok_do {fI : Addr} (F : Fun K "__or__" "Demands.__or__" sDo f fd) (Y : TxD K mg D) (M : Mk K D fI) (GI : FnR P w K mg base (L2.CX P w) 8 fI (spDiBR P w C D CT)) : FnOk P w K mg base (L2.CX P w) 10 f fd ["self", "other"] (spDo P w C D CT) := by
  refine F.okX scDo (fun vs H Q E h => ?_) (fun cdv A outer s H vs Q E hr h => ?_)
  · obtain ⟨o, q, ks, ls, rfl, _⟩ := h
    rfl
  · obtain ⟨o, q, ks, ls, rfl, ⟨dx, r, os, h1, h2, h3⟩, ⟨dy, r2, qs, g1, g2, g3⟩, ok, k⟩ := h
    have hr9 : Room 9 _ := hr
    refine ⟨_, (pss_cons (ps_set (i := 2) scDo.nd rfl (Or.inl rfl) (pe_op op_cat2 (pe_fld (pv 0) rfl) (pe_fld (pv 1) rfl)))
      (pss_one (ps_ret (pe_makeSG M GI hr9 (by rfl) Y.mgD (passes_call (takes_of rfl rfl rfl rfl) fun _ _ _ _ h => h) (pv 2))))), ?_⟩
    have n := ok.n
    rw [List.length_append] at n
    refine ⟨_, rfl, o, D, dx, _, _, rfl, h1, Y.cl, Y.nS, fldD_sets _, _, rfl, q, D, dy, _, _, rfl, g1, Y.cl, Y.nS, fldD_sets _, r, r2, _, _, rfl, rfl, h2, g2, ?_, fun t H1 s1 e1 => ?_⟩
    · rw [List.length_map, List.length_map, h3.1, g3.1]; show _ ≤ 16777216; omega
    rw [← List.map_append] at e1
    exact ⟨_, rfl, t, _, rfl, .inl (SqT.of e1), initB ((h3.same s1).app (g3.same s1)) ok (k.same s1)⟩
theorem pair_len (ks ls : List ASet) : (pairL ks ls).length = ks.length * ls.length := by
  unfold pairL
  induction ks with
  | nil => simp
  | cons k ks ih => rw [List.flatMap_cons, List.length_append, ih, List.length_map, List.length_cons, Nat.succ_mul, Nat.add_comm]
theorem pair_app (ks ls : List ASet) (k : ASet) : pairL (ks ++ [k]) ls = pairL ks ls ++ ls.map fun l => lawSort (k ++ l) := by
  unfold pairL
  rw [List.flatMap_append, List.flatMap_cons, List.flatMap_nil, List.append_nil]
theorem ok_dA {fI fO : Addr} {fdO : FuncData} (F : Fun K "__and__" "Demands.__and__" sDA f fd) (Y : TxD K mg D) (M : Mk K D fI) (GI : FnR P w K mg base (L2.CX P w) 8 fI (spDiBR P w C D CT))
    (GO : FnOk P w K mg base CX0 6 fO fdO ["self", "other"] (spBin P w C (· ++ ·))) (bO : Binds K fdO ["self", "other"] []) (hsf : PySem.W.selfFirst K C = true) (hO : PySem.W.findIn K (.ref C) (PySem.dunder (Operator.info .BitOr).2) = some (some (.ref fO))) (hOf : PySem.W.isFn K (.ref fO) = true) :
    FnOk P w K mg base (L2.CX P w) 10 f fd ["self", "other"] (spDA P w C D CT) := by
  refine F.okX scDA (fun vs H Q E h => ?_) (fun cdv A outer s H vs Q E hr h => ?_)
  · obtain ⟨o, q, ks, ls, rfl, _⟩ := h
    rfl
  · obtain ⟨o, q, ks, ls, rfl, ⟨dx, r, os, h1, h2, h3⟩, ⟨dy, r2, qs, g1, g2, g3⟩, wk, wl, kl, ll, ok, k⟩ := h
    have hr9 : Room 9 _ := hr
    have hr6 : Room 6 _ := hr.mono (by decide)
    refine ⟨_, (pss_cons (ps_setLc2 (i := 2) (own := [("one", 3), ("two", 4)]) (vs1 := [4]) (g := gName 3) (g1 := gName 4) (tt := tYes) (tt1 := tYes) (wi1 := iTup K (tFld K (tVar 1) "sets")) (te := tOp (fun x y H Q => ∃ a b dx fs dy gs, x = .ref a ∧ y = .ref b ∧ H a = some (.ins C dx fs) ∧ H b = some (.ins C dy gs) ∧ spBin P w C (· ++ ·) [.ref a, .ref b] H (fun v H' => ∃ c, v = .ref c ∧ Q (.ref c) H') E0) (tVar 3) (tVar 4)) rfl scDA.nd rfl rfl (sw_true rfl rfl rfl (by decide +kernel)) (pi_tup (pe_fld (pv 0) rfl)) (blkOk_by (N := nDA) (sc := defScope sDA) (by decide +kernel)) (by decide +kernel)
        (fun _ _ _ _ _ => pg_name (i := 3) scDA.nd rfl (Or.inl rfl)) (fun _ _ _ _ _ => pts_nil) (fun s1 H1 C1 cl1 fp1 => ?pi) (fun _ _ _ _ _ => pg_name (i := 4) scDA.nd rfl (Or.inl rfl)) (fun _ _ _ _ _ => pts_nil)
        (fun s1 H1 C1 cl1 fp1 => ?el))
      (pss_one (ps_ret (pe_makeSG M GI hr9 (by rfl) Y.mgD (passes_call (takes_of rfl rfl rfl rfl) fun _ _ _ _ h => h) (pv 2))))), ?_⟩
    case pi => exact pi_tupK (K' := K) rfl (pe_fld (pv 1) rfl)
    case el => exact pe_op (op_binO .BitOr GO bO pass0 hr6 hsf hO hOf) (pv 3) (pv 4)
    have hlk : ks.length * ls.length ≤ 10000 := by rw [← pair_len]; exact ok.n
    refine ⟨_, rfl, o, D, dx, _, _, rfl, h1, Y.cl, Y.nS, fldD_sets _, r, rfl, ⟨_, SqT.of h2⟩, fun Z hZ => ?_⟩
    refine any_it (walk_tup (K := K) (a := r) (xs := os.map V.ref)) (fun i Hc => ∃ os2 : List Addr, Hc Z = some (.lst (os2.map V.ref)) ∧ SetsAt P w C Hc os2 (pairL (ks.take i) ls) ∧ Same H Hc) ?_ ?_ ?_ ?_
    · exact ⟨[], upd_same, SetsAt.nil, (Same.refl H).put hZ⟩
    · rintro i Hc _ ⟨_, _, _, sm⟩
      exact SqT.of (sm _ _ h2)
    · rintro i y Hc _ hi ⟨os2, hZl, SZ, sm⟩ ⟨rfl, hy⟩
      obtain ⟨p1, c1, rfl, hc, ho, A0, hi2⟩ := h3.nth hy
      have hcm := List.mem_of_getElem? hc
      have et : ks.take (i + 1) = ks.take i ++ [c1] := by rw [List.take_add_one, hc]; rfl
      have il : (pairL (ks.take i) ls).length + ls.length ≤ 10000 := by
        rw [pair_len, List.length_take, ← Nat.succ_mul]
        exact Nat.le_trans (Nat.mul_le_mul_right _ (by have := (List.getElem?_eq_some_iff.mp hc).1; omega)) hlk
      refine ⟨rfl, _, rfl, q, D, dy, _, _, rfl, sm _ _ g1, Y.cl, Y.nS, fldD_sets _, r2, rfl, ⟨_, SqT.of (sm _ _ g2)⟩, ?_⟩
      refine any_it (walk_tup (K := K) (a := r2) (xs := qs.map V.ref)) (fun j Hd => ∃ os2 : List Addr, Hd Z = some (.lst (os2.map V.ref)) ∧ SetsAt P w C Hd os2 (pairL (ks.take i) ls ++ (ls.take j).map fun l => lawSort (c1 ++ l)) ∧ Same H Hd) ?_ ?_ ?_ ?_
      · exact ⟨os2, hZl, by rw [List.take_zero, List.map_nil, List.append_nil]; exact SZ, sm⟩
      · rintro j Hd _ ⟨_, _, _, sd⟩
        exact SqT.of (sd _ _ g2)
      · rintro j y Hd _ hj ⟨os3, hZd, SZd, sd⟩ ⟨rfl, hy⟩
        obtain ⟨p2, c2, rfl, hc2, ho2, B0, hj2⟩ := g3.nth hy
        have hcm2 := List.mem_of_getElem? hc2
        have et2 : ls.take (j + 1) = ls.take j ++ [c2] := by rw [List.take_add_one, hc2]; rfl
        have A1 := A0.same sd
        have B1 := B0.same sd
        obtain ⟨dz, fz, iz, _⟩ := A1.ins
        obtain ⟨dv, fv, iv, _⟩ := B1.ins
        refine ⟨rfl, _, rfl, _, rfl, p1, p2, dz, fz, dv, fv, rfl, rfl, iz, iv, p1, p2, c1, c2, rfl, A1, B1, (wk c1 hcm).1, (wl c2 hcm2).1, (wk c1 hcm).2, (wl c2 hcm2).2, fun r9 G9 aw s9 => ⟨r9, rfl, ?_⟩⟩
        have hZ9 := s9 _ _ hZd
        refine ⟨_, hZ9, ?_, os3 ++ [r9], by rw [upd_same, List.map_append]; rfl, ?_, (sd.trans s9).put hZ⟩
        · rw [List.length_map, SZd.1, List.length_append, List.length_map, List.length_take]; show _ < 16777216; omega
        · rw [et2, List.map_append, ← List.append_assoc]
          exact ((SZd.same s9).snoc aw).wrL hZ9
      · rintro Hd ⟨os3, hZd, SZd, sd⟩
        rw [List.length_map, g3.1, List.take_length] at SZd
        exact ⟨os3, hZd, by rw [et, pair_app]; exact SZd, sd⟩
    · rintro Hc ⟨os2, hZl, SZ, sm⟩
      rw [List.length_map, h3.1, List.take_length] at SZ
      exact ⟨_, rfl, Z, _, rfl, .inr (SqL.of hZl), initB SZ ok (k.same sm)⟩
theorem di_calm (G : FnR P w K mg base (L2.CX P w) 8 f (spDiBR P w C D CT)) : FnR P w K mg base CX0 8 f (spDiR P w C D) := FnR.calm G fun vs H Q E ⟨ws, rest, e, l1, l2, k⟩ => ⟨ws, rest, e, l1, l2, fun p hp => by
  obtain ⟨p', dx, rt, os, cs, e', h1, h2, S, g, kQ⟩ := k p hp
  exact ⟨p', dx, rt, os, cs, e', h1, h2, S, g.b, fun _ => kQ, fun z => absurd (inU_least g.u g.g) z⟩⟩
end
end K2
end
section
set_option Elab.async false
set_option maxRecDepth 100000
set_option linter.all false
/-! what joined demands tell, of lists -/
namespace K2
open PySem PySem.W PySem.Calls L2 LfX PySem.Spec PyProof.Rows
theorem up_app {ks ls : List ASet} {S : ASet} : Up (ks ++ ls) S ↔ Up ks S ∨ Up ls S := by
  constructor
  · rintro ⟨c, hc, s⟩
    exact (List.mem_append.mp hc).elim (fun h => .inl ⟨c, h, s⟩) fun h => .inr ⟨c, h, s⟩
  · rintro (⟨c, hc, s⟩ | ⟨c, hc, s⟩)
    · exact ⟨c, List.mem_append_left _ hc, s⟩
    · exact ⟨c, List.mem_append_right _ hc, s⟩
theorem mem_pair {ks ls : List ASet} {c : ASet} : c ∈ pairL ks ls ↔ ∃ k ∈ ks, ∃ l ∈ ls, c = lawSort (k ++ l) := by
  unfold pairL
  rw [List.mem_flatMap]
  constructor
  · rintro ⟨k, hk, h⟩
    obtain ⟨l, hl, rfl⟩ := List.mem_map.mp h
    exact ⟨k, hk, l, hl, rfl⟩
  · rintro ⟨k, hk, l, hl, rfl⟩
    exact ⟨k, hk, List.mem_map.mpr ⟨l, hl, rfl⟩⟩
theorem up_pair {ks ls : List ASet} {S : ASet} : Up (pairL ks ls) S ↔ Up ks S ∧ Up ls S := by
  constructor
  · rintro ⟨c, hc, s⟩
    obtain ⟨k, hk, l, hl, rfl⟩ := mem_pair.mp hc
    exact ⟨⟨k, hk, fun a ha => s a ((lawSort_mem _ a).mpr (List.mem_append_left _ ha))⟩, ⟨l, hl, fun a ha => s a ((lawSort_mem _ a).mpr (List.mem_append_right _ ha))⟩⟩
  · rintro ⟨⟨k, hk, s1⟩, ⟨l, hl, s2⟩⟩
    refine ⟨_, mem_pair.mpr ⟨k, hk, l, hl, rfl⟩, fun a ha => ?_⟩
    rcases List.mem_append.mp ((lawSort_mem _ a).mp ha) with h | h
    · exact s1 a h
    · exact s2 a h
structure OkV (U : ASet) : Prop where
  nd : U.Nodup
  w : AllW U
  l : U.length ≤ 16
theorem OkU.v {U : ASet} (h : OkU U) : OkV U := ⟨h.nd, h.w, by have := h.l; omega⟩
theorem okb_num {U : ASet} {ms : List Nat} (h : OkV U) (l : ms.length ≤ 10000) : OkB (numC U ms) :=
  ⟨⟨U, h.l, fun c hc a ha => by
    obtain ⟨m, _, rfl⟩ := List.mem_map.mp hc
    exact (mem_bitsF.mp ((lawSort_mem _ a).mp ha)).1⟩, fun c hc => by
    obtain ⟨m, _, rfl⟩ := List.mem_map.mp hc
    exact GS.of (bitsF_w h.w m), by unfold numC; rw [List.length_map]; exact l⟩
theorem least_mem' {cs : List ASet} (g : ∀ c ∈ cs, GS c) {c : ASet} (hc : c ∈ leastC cs) : c ∈ cs := least_mem (fun c hc => (g c hc).k) hc
theorem least_n (cs : List ASet) : (leastC cs).length ≤ cs.length := by
  have := keep_len (sortC cs) []
  rw [List.length_nil, (sortC_perm cs).length_eq] at this
  show ((sortC cs).foldl LfX.stepK []).length ≤ _
  omega
theorem up_least {cs : List ASet} (g : ∀ c ∈ cs, GS c) (S : ASet) : Up (leastC cs) S ↔ Up cs S := least_up (fun c hc => (g c hc).k) S
theorem okb_app {ks ls cs : List ASet} (h : InU 16 cs) (k : ∀ c ∈ ks, (∃ d ∈ cs, ∀ a ∈ c, a ∈ d) ∧ GS c) (l : ∀ c ∈ ls, (∃ d ∈ cs, ∀ a ∈ c, a ∈ d) ∧ GS c) (n : ks.length + ls.length ≤ 10000) : OkB (ks ++ ls) := by
  obtain ⟨U, u1, u2⟩ := h
  refine ⟨⟨U, u1, fun c hc a ha => ?_⟩, fun c hc => ?_, by rw [List.length_append]; exact n⟩
  · rcases List.mem_append.mp hc with h | h
    · obtain ⟨d, hd, s⟩ := (k c h).1
      exact u2 d hd a (s a ha)
    · obtain ⟨d, hd, s⟩ := (l c h).1
      exact u2 d hd a (s a ha)
  · exact (List.mem_append.mp hc).elim (fun h => (k c h).2) fun h => (l c h).2
/-- sets over acts that are at most so many -/
structure Over (V : ASet) (cs : List ASet) : Prop where
  i : ∀ c ∈ cs, ∀ a ∈ c, a ∈ V
  g : ∀ c ∈ cs, GS c
theorem Over.least {V : ASet} {cs : List ASet} (h : Over V cs) : Over V (leastC cs) := ⟨fun c hc => h.i c (least_mem' h.g hc), fun c hc => h.g c (least_mem' h.g hc)⟩
theorem Over.app {V : ASet} {ks ls : List ASet} (h : Over V ks) (k : Over V ls) : Over V (ks ++ ls) := ⟨fun c hc => (List.mem_append.mp hc).elim (h.i c) (k.i c), fun c hc => (List.mem_append.mp hc).elim (h.g c) (k.g c)⟩
theorem Over.pair {V : ASet} {ks ls : List ASet} (h : Over V ks) (k : Over V ls) : Over V (pairL ks ls) := by
  refine ⟨fun c hc a ha => ?_, fun c hc => ?_⟩
  · obtain ⟨x, hx, y, hy, rfl⟩ := mem_pair.mp hc
    exact (List.mem_append.mp ((lawSort_mem _ a).mp ha)).elim (h.i x hx a) (k.i y hy a)
  · obtain ⟨x, hx, y, hy, rfl⟩ := mem_pair.mp hc
    exact GS.of fun a ha => (List.mem_append.mp ha).elim ((h.g x hx).w a) ((k.g y hy).w a)
theorem Over.num {U : ASet} (w : AllW U) (ms : List Nat) : Over U (numC U ms) := ⟨fun c hc a ha => by
    obtain ⟨m, _, rfl⟩ := List.mem_map.mp hc
    exact (mem_bitsF.mp ((lawSort_mem _ a).mp ha)).1, fun c hc => by
    obtain ⟨m, _, rfl⟩ := List.mem_map.mp hc
    exact GS.of (bitsF_w w m)⟩
theorem Over.b {V : ASet} {cs : List ASet} (h : Over V cs) (l : V.length ≤ 16) (n : cs.length ≤ 10000) : OkB cs := ⟨⟨V, l, h.i⟩, h.g, n⟩
theorem Over.up {V : ASet} {cs : List ASet} (h : Over V cs) (S : ASet) : Up (leastC cs) S ↔ Up cs S := up_least h.g S
theorem Over.one {V W : ASet} {ks cs : List ASet} (h : Over V ks) (k : Over W cs) (e : ∀ S, Up ks S ↔ Up cs S) : leastC ks = leastC cs := least_one (fun c hc => (h.g c hc).k) (fun c hc => (k.g c hc).k) e
theorem Over.in8 {V : ASet} {cs : List ASet} (h : Over V cs) (l : V.length ≤ 8) : InU 8 (leastC cs) := ⟨V, l, h.least.i⟩
theorem Over.call {V : ASet} {cs : List ASet} (h : Over V cs) (l : V.length ≤ 16) : ∀ c ∈ cs, AllW c ∧ c.length ≤ 400 := fun c hc => ⟨(h.g c hc).w, by
  have := (h.g c hc).k.nd.length_le_of_subset (h.i c hc)
  omega⟩
/-- each with each -/
def pairN (fs os : List Nat) : List (Nat × Nat) := fs.flatMap fun s => os.map fun t => (s, t)
theorem mem_pairN {fs os : List Nat} {p : Nat × Nat} : p ∈ pairN fs os ↔ p.1 ∈ fs ∧ p.2 ∈ os := by
  unfold pairN
  rw [List.mem_flatMap]
  constructor
  · rintro ⟨s, hs, h⟩
    obtain ⟨t, ht, rfl⟩ := List.mem_map.mp h
    exact ⟨hs, ht⟩
  · rintro ⟨h1, h2⟩
    exact ⟨p.1, h1, List.mem_map.mpr ⟨p.2, h2, rfl⟩⟩
theorem pairN_len (fs os : List Nat) : (pairN fs os).length = fs.length * os.length := by
  unfold pairN
  induction fs with
  | nil => simp
  | cons k ks ih => rw [List.flatMap_cons, List.length_append, ih, List.length_map, List.length_cons, Nat.succ_mul, Nat.add_comm]
theorem pairN_app (fs os : List Nat) (s : Nat) : pairN (fs ++ [s]) os = pairN fs os ++ os.map fun t => (s, t) := by
  unfold pairN
  rw [List.flatMap_append, List.flatMap_cons, List.flatMap_nil, List.append_nil]
theorem up_num {U : ASet} {ms : List Nat} {S : ASet} : Up (numC U ms) S ↔ ∃ m ∈ ms, ∀ a ∈ bitsF U m, a ∈ S := by
  constructor
  · rintro ⟨c, hc, s⟩
    obtain ⟨m, hm, rfl⟩ := List.mem_map.mp hc
    exact ⟨m, hm, fun a ha => s a ((lawSort_mem _ a).mpr ha)⟩
  · rintro ⟨m, hm, s⟩
    exact ⟨_, List.mem_map.mpr ⟨m, hm, rfl⟩, fun a ha => s a ((lawSort_mem _ a).mp ha)⟩
theorem up_nums_or {U : ASet} {fs os : List Nat} {S : ASet} : Up (numC U ((pairN fs os).map fun p => p.1 ||| p.2)) S ↔ Up (numC U fs) S ∧ Up (numC U os) S := by
  rw [up_num, up_num, up_num]
  constructor
  · rintro ⟨m, hm, s⟩
    obtain ⟨p, hp, rfl⟩ := List.mem_map.mp hm
    obtain ⟨h1, h2⟩ := mem_pairN.mp hp
    refine ⟨⟨p.1, h1, fun a ha => s a ?_⟩, ⟨p.2, h2, fun a ha => s a ?_⟩⟩
    · have := mem_bitsF.mp ha
      exact mem_bitsF.mpr ⟨this.1, by rw [Nat.testBit_or, this.2]; rfl⟩
    · have := mem_bitsF.mp ha
      exact mem_bitsF.mpr ⟨this.1, by rw [Nat.testBit_or, this.2, Bool.or_true]⟩
  · rintro ⟨⟨s, hs, e1⟩, ⟨t, ht, e2⟩⟩
    refine ⟨s ||| t, List.mem_map.mpr ⟨(s, t), mem_pairN.mpr ⟨hs, ht⟩, rfl⟩, fun a ha => ?_⟩
    have := mem_bitsF.mp ha
    rw [Nat.testBit_or, Bool.or_eq_true] at this
    rcases this.2 with h | h
    · exact e1 a (mem_bitsF.mpr ⟨this.1, h⟩)
    · exact e2 a (mem_bitsF.mpr ⟨this.1, h⟩)
theorem numC_app (U : ASet) (fs os : List Nat) : numC U (fs ++ os) = numC U fs ++ numC U os := List.map_append
/-- whether a set contains one of the sets -/
def metN (ms : List Nat) (s : Nat) : Bool := ms.any fun t => decide (s &&& t = t)
theorem sub_bits {U : ASet} (nd : U.Nodup) {s t : Nat} (ht : t < 2 ^ U.length) : (∀ a ∈ bitsF U t, a ∈ bitsF U s) ↔ s &&& t = t := by
  constructor
  · intro h
    apply Nat.eq_of_testBit_eq
    intro j
    rw [Nat.testBit_and]
    cases hj : t.testBit j with
    | false => rw [Bool.and_false]
    | true =>
      have jl : j < U.length := by
        refine Nat.lt_of_not_le fun z => ?_
        have := Nat.testBit_lt_two_pow (Nat.lt_of_lt_of_le ht (Nat.pow_le_pow_right (by decide) z))
        rw [this] at hj
        cases hj
      have e : U.idxOf U[j] = j := idx_at nd (List.getElem?_eq_getElem jl)
      have := (mem_bitsF.mp (h U[j] (mem_bitsF.mpr ⟨List.getElem_mem jl, by rw [e]; exact hj⟩))).2
      rw [e] at this
      rw [this]
      rfl
  · intro e a ha
    have := mem_bitsF.mp ha
    refine mem_bitsF.mpr ⟨this.1, ?_⟩
    have h2 := this.2
    rw [← e, Nat.testBit_and, Bool.and_eq_true] at h2
    exact h2.1
theorem met_any {U : ASet} (u : OkV U) {ms : List Nat} (n : Nums U ms) (s : Nat) : ((leastC (numC U ms)).any fun c => decide (SubS c (lawSort (bitsF U s)))) = metN ms s := by
  rw [Bool.eq_iff_iff, up_any, (Over.num u.w ms).up, up_num]
  unfold metN
  rw [List.any_eq_true]
  constructor
  · rintro ⟨m, hm, h⟩
    exact ⟨m, hm, decide_eq_true ((sub_bits u.nd (n m hm)).mp fun a ha => (lawSort_mem _ a).mp (h a ha))⟩
  · rintro ⟨m, hm, h⟩
    exact ⟨m, hm, fun a ha => (lawSort_mem _ a).mpr ((sub_bits u.nd (n m hm)).mpr (of_decide_eq_true h) a ha)⟩
end K2
end
section
set_option Elab.async false
set_option maxRecDepth 100000
set_option linter.all false
/-! the law: parts, demands, pairs, what is met -/
namespace K2
open PySem PySem.W PySem.Calls L2 LfX PySem.Spec PyProof.Rows
abbrev sMe : Stmt := top 33
abbrev nMe : List Str := ["_law_numbers_here", "_law_s", "_law_t"]
abbrev nPr : List Str := ["_law_first", "_law_others", "_law_found", "_law_s", "_law_t"]
def spPaV : Sp := fun vs H Q _ => ∃ (l : Addr) (ts : List Addr) (U : ASet) (m : Nat), vs = [.ref l, .int (m : Nat)] ∧ UAt H l ts U ∧ OkV U ∧
  ∀ (r : Addr) (qs : List Addr) (H' : Hp), H' r = some (.lst (qs.map V.ref)) → ActsAt H' qs (bitsF U m) → Same H H' → Q (.ref r) H'
def spDdB (P : Program) (w : World) (C D CT : Addr) : Sp := fun vs H Q E => ∃ (l ln : Addr) (ts : List Addr) (U : ASet) (ms : List Nat), vs = [.ref l, .ref ln] ∧ UAt H l ts U ∧ OkV U ∧ H ln = some (.lst (intsV ms)) ∧ ms.length ≤ 100 ∧ OutD P w C D CT (numC U ms) H Q E
def spMe : Sp := fun vs H Q _ => ∃ (ln : Addr) (ms : List Nat) (s : Nat), vs = [.ref ln, .int (s : Nat)] ∧ H ln = some (.lst (intsV ms)) ∧ ms.length ≤ 100 ∧ ∀ H', Same H H' → Q (.bl (metN ms s)) H'
/-- pairs of numbers stand at addresses -/
def PrI (H : Hp) (qs : List Addr) (ps : List (Nat × Nat)) : Prop := qs.length = ps.length ∧ ∀ (j : Nat) (q : Addr) (p : Nat × Nat), qs[j]? = some q → ps[j]? = some p → H q = some (.tup [.int (p.1 : Nat), .int (p.2 : Nat)])
theorem PrI.mono {H H' : Hp} {qs : List Addr} {ps : List (Nat × Nat)} (h : PrI H qs ps) (k : ∀ b xs, H b = some (.tup xs) → H' b = some (.tup xs)) : PrI H' qs ps := ⟨h.1, fun j q p a b => k _ _ (h.2 j q p a b)⟩
theorem PrI.app {H : Hp} {qs qs2 : List Addr} {ps ps2 : List (Nat × Nat)} (h : PrI H qs ps) (h2 : PrI H qs2 ps2) : PrI H (qs ++ qs2) (ps ++ ps2) := by
  refine ⟨by rw [List.length_append, List.length_append, h.1, h2.1], fun j q p e1 e2 => ?_⟩
  by_cases hj : j < qs.length
  · rw [List.getElem?_append_left hj] at e1
    rw [List.getElem?_append_left (by rw [← h.1]; exact hj)] at e2
    exact h.2 j q p e1 e2
  · rw [List.getElem?_append_right (by omega)] at e1
    rw [List.getElem?_append_right (by have := h.1; omega), ← h.1] at e2
    exact h2.2 _ q p e1 e2
theorem PrI.one {H : Hp} {q : Addr} {p : Nat × Nat} (h : H q = some (.tup [.int (p.1 : Nat), .int (p.2 : Nat)])) : PrI H [q] [p] := ⟨rfl, fun j q' p' e1 e2 => by
  match j with
  | 0 => cases e1; cases e2; exact h
  | j + 1 => simp at e1⟩
theorem PrI.nil {H : Hp} : PrI H [] [] := ⟨rfl, fun j q p h => by simp at h⟩
def spPr : Sp := fun vs H Q _ => ∃ (lf lo : Addr) (fs os : List Nat), vs = [.ref lf, .ref lo] ∧ H lf = some (.lst (intsV fs)) ∧ H lo = some (.lst (intsV os)) ∧ fs.length ≤ 10 ∧ os.length ≤ 10 ∧
  ∀ (r : Addr) (qs : List Addr) (H' : Hp), H' r = some (.lst (qs.map V.ref)) → PrI H' qs (pairN fs os) → Same H H' → Q (.ref r) H'
section
variable {P : Program} {w : World} {K : PySem.W.Frag} {mg : Str → Option Value} {base : Heap} {C D CT f : Addr} {fd : FuncData}
theorem scMe : FnScope nMe ["_law_numbers_here", "_law_s"] (defScope sMe) := ⟨rfl, rfl, rfl, by decide +kernel, rfl, by decide +kernel, by decide +kernel⟩
theorem ok_paV (F : Fun K "_law_part" "_law_part" sPa f fd) (T : Bi mg) : FnOk P w K mg base CX0 1 f fd ["_law_acts_here", "_law_s"] spPaV := by
  refine F.ok scPa (fun vs H Q E h => ?_) (fun cdv A outer s H vs Q E hr h => ?_)
  · obtain ⟨l, ts, U, m, rfl, _⟩ := h
    rfl
  · obtain ⟨l, ts, U, m, rfl, ⟨hl, R⟩, u, k⟩ := h
    refine ⟨_, (pss_one (ps_ret (pe_lc (own := [("_law_k", 2)]) (g := gName 2) (te := tOp (rIxL K) (tVar 0) (tVar 2)) rfl scPa.nd (pi_range1 (by rfl) T.range (pa_cons (pe_callB call_len_seq (by rfl) T.len PySem.boot_len (pa_cons (pv 0) pa_nil)) pa_nil)) (blkOk_by (N := nPa) (sc := defScope sPa) (by decide +kernel)) (fun _ _ _ _ _ => pg_name (i := 2) scPa.nd rfl (Or.inl rfl)) (fun _ _ _ _ _ => pts_one (pt_cmpR op_eq (pe_op op_and (pe_op op_shr (pe_callTy call_int1 (by rfl) T.int (by decide +kernel) (pa_cons (pv 1) pa_nil)) (pv 2)) pe_int) pe_int (nomark _))) (fun s1 H1 C1 cl1 fp1 => ?el0)))), ?_⟩
    case el0 => exact pe_ix ix_list (pv 0) (pv 2) (fun _ _ => rfl)
    have tl : (ts.map V.ref).length = U.length := by rw [List.length_map, R.1]
    have ul := u.l
    refine ⟨_, rfl, l, _, rfl, .inl (SqL.of hl), _, rfl, by omega, by omega, fun D hD => ?_⟩
    rw [tl]
    refine lc_range (lo := 0) (n := U.length) (fun i Hc => LstA H D ((U.take i).filter fun a => m.testBit (U.idxOf a)) Hc) ?_ ?_ ?_
    · exact ⟨[], upd_same, ⟨rfl, fun j q a h => by simp at h⟩, (Same.refl H).put hD⟩
    · rintro i Hc hi ⟨qs', hD', A', sm⟩
      rw [Int.zero_add]
      have hti : ts[i]? = some (ts[i]'(by rw [R.1]; exact hi)) := List.getElem?_eq_getElem _
      have hx : (ts.map V.ref)[i]? = some (V.ref (ts[i]'(by rw [R.1]; exact hi))) := by rw [List.getElem?_map, hti]; rfl
      generalize ts[i]'(by rw [R.1]; exact hi) = q at hti hx
      have hb : U[i]? = some U[i] := List.getElem?_eq_getElem hi
      have hqb := R.2 i q _ hti hb
      generalize U[i] = b at hb hqb
      have et : U.take (i + 1) = U.take i ++ [b] := by rw [List.take_add_one, hb]; rfl
      refine ⟨rfl, ?_⟩
      refine ⟨_, rfl, .inl ⟨_, rfl, _, rfl, _, _, rfl, rfl, Int.natCast_nonneg i, _, _, rfl, rfl, rfl, _, rfl, ?_⟩⟩
      have eb : m.testBit i = m.testBit (U.idxOf b) := by rw [idx_at u.nd hb]
      rw [shr_bit, eb]
      have hl9 : qs'.length ≤ 100 := by
        rw [A'.1]
        have := List.length_filter_le (fun a => m.testBit (U.idxOf a)) (U.take i)
        rw [List.length_take] at this
        omega
      cases hp : m.testBit (U.idxOf b) with
      | true =>
        refine iteT ⟨_, rfl, _, rfl, l, _, _, _, rfl, rfl, SqL.of (sm _ _ hl), atI_nat (j := i) hx, _, hD', by rw [List.length_map]; show _ < 16777216; omega, qs' ++ [q], by rw [upd_same, List.map_append]; rfl, ?_, sm.put hD⟩
        rw [et, List.filter_append, List.filter_cons_of_pos (p := fun a => m.testBit (U.idxOf a)) hp, List.filter_nil]
        refine ActsAt.mono (H := Hc) (acts_snoc A' (sm _ _ hqb)) fun b xs e => ?_
        rw [upd_ne (ne_of e hD' (by intro z; cases z))]
        exact e
      | false =>
        refine iteF ?_
        rw [et, List.filter_append, List.filter_cons_of_neg (p := fun a => m.testBit (U.idxOf a)) (by rw [hp]; exact Bool.false_ne_true), List.filter_nil, List.append_nil]
        exact ⟨qs', hD', A', sm⟩
    · rintro Hc ⟨qs2, e2, A2, s2⟩
      rw [List.take_length] at A2
      exact k D qs2 Hc e2 A2 s2
theorem ok_ddB {fPa pM fM pN fN : Addr} {mc md : Value} {fdPa fdM fdN : FuncData} (F : Fun K "_law_demands" "_law_demands" sDd f fd) (T : Bi mg) (YC : TxA K mg C) (Y : TxD K mg D) (PA : Df K mg "_law_part" sPa fPa fdPa ["_law_acts_here", "_law_s"]) (GPa : FnOk P w K mg base CX0 1 fPa fdPa ["_law_acts_here", "_law_s"] spPaV)
    (cR : ClX.CRead K C mc) (cM : ClX.CMet K C mc "made" pM fM) (GM : FnOk P w K mg base CX0 6 fM fdM ["cls", "rows"] (spMdA P w C)) (bM : Binds K fdM ["cls", "rows"] [])
    (dR : ClX.CRead K D md) (dM : ClX.CMet K D md "made" pN fN) (GN : FnOk P w K mg base (L2.CX P w) 10 fN fdN ["cls", "sets"] (spDmB P w C D CT)) (bN : Binds K fdN ["cls", "sets"] []) : FnOk P w K mg base (L2.CX P w) 11 f fd ["_law_acts_here", "_law_numbers_here"] (spDdB P w C D CT) := by
  refine F.okX scDd (fun vs H Q E h => ?_) (fun cdv A outer s H vs Q E hr h => ?_)
  · obtain ⟨l, ln, ts, U, ms, rfl, _⟩ := h
    rfl
  · obtain ⟨l, ln, ts, U, ms, rfl, HU, u, hn, h100, k⟩ := h
    have hr10 : Room 10 _ := hr
    have hr6 : Room 6 _ := hr.mono (by decide)
    have hr1 : Room 1 _ := hr.mono (by decide)
    refine ⟨_, (pss_one (ps_ret (ClX.pe_cmeth (pe_glob (v := .ref D) rfl Y.mgD rfl) dR dM (GN.raw bN .nil) hr10 (passes_call (takes_of rfl rfl rfl rfl) fun _ _ _ _ h => h) (pa_cons (pe_lc (own := [("_law_s", 2)]) (g := gName 2) (tt := tYes) rfl scDd.nd (pi_list (pv 1)) (blkOk_by (N := nDd) (sc := defScope sDd) (by decide +kernel)) (fun _ _ _ _ _ => pg_name (i := 2) scDd.nd rfl (Or.inl rfl)) (fun _ _ _ _ _ => pts_nil)
      (fun _ _ _ _ _ => ClX.pe_cmeth (pe_glob (v := .ref C) rfl YC.mgC rfl) cR cM (GM.raw bM .nil) hr6 pass0 (pa_cons (pe_call GPa hr1 (by rfl) PA.m PA.F.kp PA.b .nil pass0 (pa_cons (pv 0) (pa_cons (pv 2) pa_nil))) pa_nil))) pa_nil)))), ?_⟩
    refine ⟨rfl, _, rfl, ln, rfl, ⟨_, SqL.of hn⟩, fun Z hZ => ?_⟩
    refine lc_list (K := K) (a := ln) (xs := intsV ms) (fun i Hc => ∃ os2 : List Addr, Hc Z = some (.lst (os2.map V.ref)) ∧ SetsAt P w C Hc os2 (numC U (ms.take i)) ∧ Same H Hc) ?_ ?_ ?_ ?_
    · exact ⟨[], upd_same, SetsAt.nil, (Same.refl H).put hZ⟩
    · rintro i Hc _ ⟨_, _, _, sm⟩
      exact SqL.of (sm _ _ hn)
    · rintro i y Hc hy ⟨os2, hZl, SZ, sm⟩
      unfold intsV at hy
      rw [List.getElem?_map] at hy
      cases hmi : ms[i]? with
      | none => rw [hmi] at hy; cases hy
      | some m =>
        rw [hmi] at hy
        cases hy
        have em : ms.take (i + 1) = ms.take i ++ [m] := by rw [List.take_add_one, hmi]; rfl
        have il := (List.getElem?_eq_some_iff.mp hmi).1
        refine ⟨rfl, rfl, _, rfl, _, rfl, l, ts, U, m, rfl, HU.same sm, u, fun r1 qs H1 e1 A1 s1 => ⟨r1, qs, bitsF U m, rfl, e1, A1, bitsF_w u.w m, by have := bitsF_len U m; have := u.l; omega, fun r2 H2 aw s2 => ?_⟩⟩
        have hZ9 := s2 _ _ (s1 _ _ hZl)
        refine ⟨_, hZ9, ?_, os2 ++ [r2], by rw [upd_same, List.map_append]; rfl, ?_, ((sm.trans s1).trans s2).put hZ⟩
        · rw [List.length_map, SZ.1]; unfold numC; rw [List.length_map, List.length_take]; show _ < 16777216; omega
        · rw [em]
          unfold numC
          rw [List.map_append]
          exact ((SZ.same (s1.trans s2)).snoc aw).wrL hZ9
    rintro Hc ⟨os2, hZl, SZ, sm⟩
    rw [show (intsV ms).length = ms.length from List.length_map _, List.take_length] at SZ
    exact ⟨Z, os2, numC U ms, rfl, hZl, SZ, okb_num u (by omega), k.same sm⟩
theorem ok_me (F : Fun K "_law_met" "_law_met" sMe f fd) (T : Bi mg) (T_any : mg "any" = none) : FnOk P w K mg base CX0 1 f fd ["_law_numbers_here", "_law_s"] spMe := by
  refine F.ok scMe (fun vs H Q E h => ?_) (fun cdv A outer s H vs Q E hr h => ?_)
  · obtain ⟨ln, ms, s, rfl, _⟩ := h
    rfl
  · obtain ⟨ln, ms, s, rfl, hn, h100, k⟩ := h
    refine ⟨_, (pss_one (ps_ret (pe_callB (cr_any rfl) (by rfl) T_any (by decide +kernel) (pa_cons (pe_lc (own := [("_law_t", 2)]) (g := gName 2) (tt := tYes) rfl scMe.nd (pi_list (pv 0)) (blkOk_by (N := nMe) (sc := defScope sMe) (by decide +kernel)) (fun _ _ _ _ _ => pg_name (i := 2) scMe.nd rfl (Or.inl rfl)) (fun _ _ _ _ _ => pts_nil) (fun _ _ _ _ _ => pe_cmpR op_eq (pe_op op_and (pv 1) (pv 2)) (pv 2) (nomark _))) pa_nil)))), ?_⟩
    refine ⟨_, rfl, ln, rfl, ⟨_, SqL.of hn⟩, fun N hN => ?_⟩
    refine lc_list (K := K) (a := ln) (xs := intsV ms) (fun j Hd => Hd N = some (.lst (((ms.take j).map fun t => decide (s &&& t = t)).map V.bl)) ∧ Same H Hd) ?_ ?_ ?_ ?_
    · exact ⟨upd_same, (Same.refl H).put hN⟩
    · rintro j Hd _ ⟨_, sd⟩
      exact SqL.of (sd _ _ hn)
    · rintro j y Hd hy ⟨hNl, sd⟩
      unfold intsV at hy
      rw [List.getElem?_map] at hy
      cases htj : ms[j]? with
      | none => rw [htj] at hy; cases hy
      | some t =>
        rw [htj] at hy
        cases hy
        have ek : ms.take (j + 1) = ms.take j ++ [t] := by rw [List.take_add_one, htj]; rfl
        refine ⟨rfl, _, rfl, _, rfl, _, _, rfl, rfl, _, rfl, rfl, _, hNl, ?_, ?_, sd.put hN⟩
        · rw [List.length_map, List.length_map, List.length_take]; show _ < 16777216; omega
        · have e : decide (V.int (Builtin.bitAnd ((s : Nat) : Int) ((t : Nat) : Int)) = V.int ((t : Nat) : Int)) = decide (s &&& t = t) := by
            rw [band_nat]
            exact decide_eq_decide.mpr ⟨fun z => by have := V.int.inj z; omega, fun z => by rw [z]⟩
          rw [upd_same, ek, List.map_append, List.map_append]
          show some (HO.lst (_ ++ [V.bl (decide (V.int (Builtin.bitAnd ((s : Nat) : Int) ((t : Nat) : Int)) = V.int ((t : Nat) : Int)))])) = _
          rw [e]
          rfl
    rintro Hd ⟨hNl, sd⟩
    rw [intsV_len, List.take_length] at hNl
    refine ⟨N, _, rfl, SqL.of hNl, ?_⟩
    have ea : ((ms.map fun t => decide (s &&& t = t)).any id) = metN ms s := by rw [List.any_map]; rfl
    rw [ea]
    exact k Hd sd
end
end K2
end
section
set_option Elab.async false
set_option maxRecDepth 100000
set_option linter.all false
/-! nine acts, and sets of them that are too many -/
namespace K2
open PySem PySem.W PySem.Calls L2 LfX PySem.Spec PyProof.Rows
/-- the word k and a letter -/
def kW (k : Nat) : Str := ("k" : Str) ++ ⟨#[(("abcdefghi" : Str).cps.toList)[k]?.getD 97]⟩
def kA (k : Nat) : LfX.Act := ⟨"a", none, kW k⟩
def U9 : ASet := (List.range 9).map kA
theorem vw_a : VW "a" := ⟨by unfold Low; decide +kernel, by decide +kernel, by decide +kernel, by decide +kernel⟩
theorem vw_kW : ∀ k < 9, VW (kW k) := fun k hk => by
  match k, hk with
  | 0, _ => exact ⟨by unfold Low; decide +kernel, by decide +kernel, by decide +kernel, by decide +kernel⟩
  | 1, _ => exact ⟨by unfold Low; decide +kernel, by decide +kernel, by decide +kernel, by decide +kernel⟩
  | 2, _ => exact ⟨by unfold Low; decide +kernel, by decide +kernel, by decide +kernel, by decide +kernel⟩
  | 3, _ => exact ⟨by unfold Low; decide +kernel, by decide +kernel, by decide +kernel, by decide +kernel⟩
  | 4, _ => exact ⟨by unfold Low; decide +kernel, by decide +kernel, by decide +kernel, by decide +kernel⟩
  | 5, _ => exact ⟨by unfold Low; decide +kernel, by decide +kernel, by decide +kernel, by decide +kernel⟩
  | 6, _ => exact ⟨by unfold Low; decide +kernel, by decide +kernel, by decide +kernel, by decide +kernel⟩
  | 7, _ => exact ⟨by unfold Low; decide +kernel, by decide +kernel, by decide +kernel, by decide +kernel⟩
  | 8, _ => exact ⟨by unfold Low; decide +kernel, by decide +kernel, by decide +kernel, by decide +kernel⟩
  | n + 9, h => exact absurd h (by omega)
theorem kA_w {k : Nat} (hk : k < 9) : ActW (kA k) := ⟨vw_a, fun x e => (by cases e), .inl (vw_kW k hk)⟩
theorem u9_nd : U9.Nodup := by decide +kernel
theorem u9_len : U9.length = 9 := by unfold U9; rw [List.length_map, List.length_range]
theorem u9_w : AllW U9 := fun a ha => by
  obtain ⟨k, hk, rfl⟩ := List.mem_map.mp ha
  exact kA_w (List.mem_range.mp hk)
theorem u9 : OkV U9 := ⟨u9_nd, u9_w, by rw [u9_len]; decide⟩
theorem okV_sub {U V : ASet} (u : OkV U) (s : V.Sublist U) : OkV V := ⟨u.nd.sublist s, fun a ha => u.w a (s.subset ha), Nat.le_trans s.length_le u.l⟩
/-- all acts of a list -/
theorem bits_all {U : ASet} (nd : U.Nodup) {a : LfX.Act} : a ∈ bitsF U (2 ^ U.length - 1) ↔ a ∈ U := by
  rw [mem_bitsF]
  refine ⟨fun h => h.1, fun h => ⟨h, ?_⟩⟩
  rw [Nat.testBit_two_pow_sub_one]
  exact decide_eq_true (List.idxOf_lt_length_of_mem h)
/-- a set alone is kept -/
theorem least_single {c d : ASet} (hk : Kept c) : d ∈ leastC [c] ↔ d = c := by
  have all : ∀ c' ∈ [c], Kept c' := fun c' h => by rw [List.mem_singleton.mp h]; exact hk
  constructor
  · intro h
    exact List.mem_singleton.mp (least_mem all h)
  · rintro rfl
    obtain ⟨k, hk2, _⟩ := (least_ok all).all d (List.mem_singleton.mpr rfl)
    have := List.mem_singleton.mp (least_mem all hk2)
    rwa [this] at hk2
theorem low_mem {U : ASet} (u : OkV U) {d : ASet} : d ∈ leastC (numC U [2 ^ U.length - 1]) ↔ d = lawSort (bitsF U (2 ^ U.length - 1)) :=
  least_single (c := lawSort (bitsF U (2 ^ U.length - 1))) (GS.of (bitsF_w u.w _)).k
/-- two sets that share nothing, with nine acts together -/
theorem wide_or {A B : ASet} {ks ls : List ASet} (uA : OkV A) (uB : OkV B) (nd : (A ++ B).Nodup) (l9 : (A ++ B).length = 9) (a0 : A ≠ []) (b0 : B ≠ []) (hk : ∀ d, d ∈ ks ↔ d = lawSort (bitsF A (2 ^ A.length - 1))) (hl : ∀ d, d ∈ ls ↔ d = lawSort (bitsF B (2 ^ B.length - 1))) : ¬ InU 8 (leastC (ks ++ ls)) := by
  rintro ⟨U, u1, u2⟩
  have mA : ∀ a, a ∈ lawSort (bitsF A (2 ^ A.length - 1)) ↔ a ∈ A := fun a => by rw [lawSort_mem, bits_all uA.nd]
  have mB : ∀ a, a ∈ lawSort (bitsF B (2 ^ B.length - 1)) ↔ a ∈ B := fun a => by rw [lawSort_mem, bits_all uB.nd]
  have kp : ∀ c ∈ ks ++ ls, Kept c := fun c hc => by
    rcases List.mem_append.mp hc with h | h
    · rw [(hk c).mp h]; exact (GS.of (bitsF_w uA.w _)).k
    · rw [(hl c).mp h]; exact (GS.of (bitsF_w uB.w _)).k
  have dis : ∀ a ∈ A, ∀ b ∈ B, a ≠ b := (List.nodup_append.mp nd).2.2
  have ok := least_ok kp
  have cA : ∀ a ∈ A, a ∈ U := fun a ha => by
    obtain ⟨k, h1, h2⟩ := ok.all _ (List.mem_append_left _ ((hk _).mpr rfl))
    rcases List.mem_append.mp (least_mem kp h1) with h | h
    · exact u2 k h1 a (by rw [(hk k).mp h]; exact (mA a).mpr ha)
    · obtain ⟨b, hb⟩ := List.exists_mem_of_ne_nil B b0
      have := (mA b).mp (h2 b (by rw [(hl k).mp h]; exact (mB b).mpr hb))
      exact absurd rfl (dis b this b hb)
  have cB : ∀ a ∈ B, a ∈ U := fun a ha => by
    obtain ⟨k, h1, h2⟩ := ok.all _ (List.mem_append_right _ ((hl _).mpr rfl))
    rcases List.mem_append.mp (least_mem kp h1) with h | h
    · obtain ⟨b, hb⟩ := List.exists_mem_of_ne_nil A a0
      have := (mB b).mp (h2 b (by rw [(hk k).mp h]; exact (mA b).mpr hb))
      exact absurd rfl (dis b hb b this)
    · exact u2 k h1 a (by rw [(hl k).mp h]; exact (mB a).mpr ha)
  have := nd.length_le_of_subset (l₂ := U) fun a ha => (List.mem_append.mp ha).elim (cA a) (cB a)
  omega
theorem wide_and {A B : ASet} {ks ls : List ASet} (uA : OkV A) (uB : OkV B) (nd : (A ++ B).Nodup) (l9 : (A ++ B).length = 9) (hk : ∀ d, d ∈ ks ↔ d = lawSort (bitsF A (2 ^ A.length - 1))) (hl : ∀ d, d ∈ ls ↔ d = lawSort (bitsF B (2 ^ B.length - 1))) : ¬ InU 8 (leastC (pairL ks ls)) := by
  rintro ⟨U, u1, u2⟩
  have mA : ∀ a, a ∈ lawSort (bitsF A (2 ^ A.length - 1)) ↔ a ∈ A := fun a => by rw [lawSort_mem, bits_all uA.nd]
  have mB : ∀ a, a ∈ lawSort (bitsF B (2 ^ B.length - 1)) ↔ a ∈ B := fun a => by rw [lawSort_mem, bits_all uB.nd]
  have wAB : AllW (lawSort (bitsF A (2 ^ A.length - 1)) ++ lawSort (bitsF B (2 ^ B.length - 1))) := fun a ha => (List.mem_append.mp ha).elim (fun h => uA.w a ((mA a).mp h)) fun h => uB.w a ((mB a).mp h)
  have one : ∀ c ∈ pairL ks ls, c = lawSort (lawSort (bitsF A (2 ^ A.length - 1)) ++ lawSort (bitsF B (2 ^ B.length - 1))) := fun c hc => by
    obtain ⟨k, h1, l, h2, rfl⟩ := mem_pair.mp hc
    rw [(hk k).mp h1, (hl l).mp h2]
  have kp : ∀ c ∈ pairL ks ls, Kept c := fun c hc => by rw [one c hc]; exact (GS.of wAB).k
  obtain ⟨k, h1, h2⟩ := (least_ok kp).all _ (mem_pair.mpr ⟨_, (hk _).mpr rfl, _, (hl _).mpr rfl, rfl⟩)
  have e := one k (least_mem kp h1)
  have := nd.length_le_of_subset (l₂ := U) fun a ha => u2 k h1 a (by
    rw [e, lawSort_mem]
    exact (List.mem_append.mp ha).elim (fun h => List.mem_append_left _ ((mA a).mpr h)) fun h => List.mem_append_right _ ((mB a).mpr h))
  omega
/-! the few -/
theorem over9 (ms : List Nat) : Over U9 (numC U9 ms) := Over.num u9_w ms
theorem in8_of {V : ASet} {ms : List Nat} (l : V.length ≤ 8) (h : ∀ m ∈ ms, ∀ a ∈ bitsF U9 m, a ∈ V) : InU 8 (leastC (numC U9 ms)) := by
  refine ⟨V, l, fun c hc a ha => ?_⟩
  obtain ⟨m, hm, rfl⟩ := List.mem_map.mp ((least_mem' (over9 ms).g) hc)
  exact h m hm a ((lawSort_mem _ a).mp ha)
theorem in8_1 : InU 8 (leastC (numC U9 [1, 254])) := in8_of (V := U9.take 8) (by decide +kernel) (by decide +kernel)
theorem in8_2 : InU 8 (leastC (numC U9 [257])) := in8_of (V := bitsF U9 257) (by decide +kernel) (by decide +kernel)
theorem in8_3 : InU 8 (leastC (numC U9 [1, 256])) := in8_of (V := bitsF U9 257) (by decide +kernel) (by decide +kernel)
theorem in8_4 : InU 8 (leastC (numC U9 [255])) := in8_of (V := U9.take 8) (by decide +kernel) (by decide +kernel)
theorem few_and : leastC (pairL (leastC (numC U9 [1, 254])) (leastC (numC U9 [257]))) = leastC (numC U9 [257]) :=
  Over.one ((over9 _).least.pair (over9 _).least) (over9 _) fun S => by
    rw [up_pair, (over9 _).up, (over9 _).up]
    refine ⟨fun h => h.2, fun h => ⟨?_, h⟩⟩
    obtain ⟨m, hm, s⟩ := up_num.mp h
    rw [List.mem_singleton.mp hm] at s
    exact up_num.mpr ⟨1, by simp, fun a ha => s a ((by decide +kernel : ∀ a ∈ bitsF U9 1, a ∈ bitsF U9 257) a ha)⟩
theorem few_or : leastC (leastC (numC U9 [1, 256]) ++ leastC (numC U9 [255])) = leastC (numC U9 [1, 256]) :=
  Over.one ((over9 _).least.app (over9 _).least) (over9 _) fun S => by
    rw [up_app, (over9 _).up, (over9 _).up]
    refine ⟨fun h => h.elim id fun h => ?_, .inl⟩
    obtain ⟨m, hm, s⟩ := up_num.mp h
    rw [List.mem_singleton.mp hm] at s
    exact up_num.mpr ⟨1, by simp, fun a ha => s a ((by decide +kernel : ∀ a ∈ bitsF U9 1, a ∈ bitsF U9 255) a ha)⟩
end K2
end
section
set_option Elab.async false
set_option maxRecDepth 100000
set_option linter.all false
/-! sorted(xs), xs a list of data; what is sorted stands for what it stood for -/
namespace LfX
open PySem PySem.W PySem.Calls PySem.Spec PyProof.Rows L2
def rSortedD (K : PySem.W.Frag) : List V → Hp → VK → Prop := fun xs H Q => ∃ (l : Addr) (vs : List V) (kz : List PyData), xs = [.ref l] ∧ SqL K H l vs ∧ kz.length = vs.length ∧ AllAlike kz ∧ Sortable kz ∧ (∀ d ∈ kz, d.depth ≤ 8) ∧
  (∀ (i : Nat) (v : V) (d : PyData), vs[i]? = some v → kz[i]? = some d → Dp K H v d) ∧ ∀ p, H p = none → Q (.ref p) (upd H p (.lst (sortedBy vs kz)))
section
variable {X : Cx}
theorem cr_sortedD (hu : X.A.units + 64 < cLine) : CallR X (.builtin "sorted") (rSortedD X.K) := by
  intro pins s σ H xs us Q I r h
  obtain ⟨l, vs, kz, rfl, hs, hlen, hal, hsk, hdp, hd, hQ⟩ := h
  obtain rfl := Vals.ref1 r
  obtain ⟨its, rv, hl, hz⟩ := I.list hs
  have il : its.length = vs.length := rv.length.symm
  have ezs : (vs.zip kz).map (·.2) = kz := List.map_snd_zip (by omega)
  have lz : (vs.zip kz).length = its.length := by rw [List.length_zip]; omega
  refine sorted_data (R := fun u (p : V × PyData) => RelV p.1 u) (bs := vs.zip kz) (enc := (·.2)) hl.isList ?_ ?_ (by rw [ezs]; exact hal) (by rw [ezs]; exact hsk) (by omega) (fun p hp => ?_) fun out h1 h2 => ?_
  · refine each_of (by omega) fun j u p a b => ?_
    obtain ⟨g1, g2⟩ := List.getElem?_zip_eq_some.mp b
    exact vals_get rv g1 a
  · refine each_of (by omega) fun j u p a b => ?_
    obtain ⟨g1, g2⟩ := List.getElem?_zip_eq_some.mp b
    exact Dp.reads I _ _ _ (hd j p.1 p.2 g1 g2) (vals_get rv g1 a)
  · have := hdp p.2 (by rw [← ezs]; exact List.mem_map.mpr ⟨p, hp, rfl⟩)
    omega
  · obtain ⟨a, ea⟩ : ∃ a, a = s.heap.objs.size + 1 := ⟨_, rfl⟩
    obtain ⟨c, hc⟩ := sortedAll_at s.heap its out.toArray
    rw [← ea] at hc ⊢
    have vo : Vals (sortedBy vs kz) out := each_vals h2
    have I1 : Inv X pins σ (upd H a (.lst (sortedBy vs kz))) { s with heap := sortedAll s.heap its out.toArray } := I.laid (t' := s.toks) (fun b o e => sortedAll_old e) (by rw [ea]; exact Nat.le_succ _) ⟨by rw [vo.length, h1]; omega, out, c, vo, hc⟩
    exact ⟨.ref a, _, I1, rfl, hQ a (I.hok.fresh (by rw [ea]; exact Nat.le_succ _))⟩
end
/-- what is sorted stands for what it stood for -/
theorem sorted_gen {β : Type} (R : Addr → β → Prop) (enc : β → PyData) {qs : List Addr} {xs : List β} (hl : qs.length = xs.length) (hq : ∀ (j : Nat) (q : Addr) (x : β), qs[j]? = some q → xs[j]? = some x → R q x) :
    ∃ qs' : List Addr, sortedBy (qs.map V.ref) (xs.map enc) = qs'.map V.ref ∧ qs'.length = (xs.mergeSort (dataLe false enc)).length ∧ ∀ (j : Nat) (q : Addr) (x : β), qs'[j]? = some q → (xs.mergeSort (dataLe false enc))[j]? = some x → R q x := by
  have ez : (qs.map V.ref).zip (xs.map enc) = (qs.zip xs).map fun p => (V.ref p.1, enc p.2) := by rw [List.zip_map]; rfl
  have e1 : ((qs.zip xs).map fun p => (V.ref p.1, enc p.2)).mergeSort (dataLe false (·.2)) = ((qs.zip xs).mergeSort fun x y => dataLe false enc x.2 y.2).map fun p => (V.ref p.1, enc p.2) :=
    (List.map_mergeSort (r := fun x y : Addr × β => dataLe false enc x.2 y.2) (s := dataLe false (·.2)) (f := fun p : Addr × β => (V.ref p.1, enc p.2)) fun a _ b _ => rfl).symm
  have e2 : ((qs.zip xs).mergeSort fun x y => dataLe false enc x.2 y.2).map (·.2) = xs.mergeSort (dataLe false enc) := by
    have := List.map_mergeSort (l := qs.zip xs) (r := fun x y : Addr × β => dataLe false enc x.2 y.2) (s := dataLe false enc) (f := fun p : Addr × β => p.2) fun a _ b _ => rfl
    rw [this, List.map_snd_zip (by omega)]
  have mem : ∀ p ∈ (qs.zip xs).mergeSort (fun x y => dataLe false enc x.2 y.2), R p.1 p.2 := fun p hp => by
    obtain ⟨j, hj⟩ := List.mem_iff_getElem?.mp ((List.mergeSort_perm _ _).mem_iff.mp hp)
    obtain ⟨g1, g2⟩ := List.getElem?_zip_eq_some.mp hj
    exact hq j p.1 p.2 g1 g2
  generalize (qs.zip xs).mergeSort (fun x y => dataLe false enc x.2 y.2) = L at e1 e2 mem
  refine ⟨L.map (·.1), ?_, ?_, fun j q a h1 h2 => ?_⟩
  · unfold sortedBy
    rw [ez, e1, List.map_map, List.map_map]
    rfl
  · rw [← e2, List.length_map, List.length_map]
  · rw [← e2] at h2
    rw [List.getElem?_map] at h1 h2
    cases hL : L[j]? with
    | none => rw [hL] at h1; cases h1
    | some p =>
      rw [hL] at h1 h2
      cases h1
      cases h2
      exact mem p (List.mem_of_getElem? hL)
end LfX
end
section
set_option Elab.async false
set_option maxRecDepth 100000
set_option linter.all false
/-! the law's order of sets is the program's -/
namespace LfX
open PySem PySem.W PySem.Calls PySem.Spec PyProof.Rows L2
theorem lex_app {x y r t : List (Int ⊕ List Nat)} (hl : x.length = y.length) (ne : x ≠ y) : lexLt itemOrd (x ++ r) (y ++ t) = lexLt itemOrd x y := by
  induction x generalizing y with
  | nil => cases y with
    | nil => exact absurd rfl ne
    | cons b y => cases hl
  | cons a x ih => cases y with
    | nil => cases hl
    | cons b y =>
      rw [List.cons_append, List.cons_append]
      by_cases e : a = b
      · rw [e, lex_self (O := itemOrd), lex_self (O := itemOrd)]
        exact ih (Nat.succ.inj hl) fun q => ne (by rw [e, q])
      · rw [lex_diff (O := itemOrd) e, lex_diff (O := itemOrd) e]
theorem lex_pre (x : List (Int ⊕ List Nat)) (r t : List (Int ⊕ List Nat)) : lexLt itemOrd (x ++ r) (x ++ t) = lexLt itemOrd r t := by
  induction x with
  | nil => rfl
  | cons a x ih => rw [List.cons_append, List.cons_append, lex_self (O := itemOrd), ih]
/-- an act with something of it, handled where anything is -/
structure PlOk (a : Act) : Prop where
  h : HdOk a
  o : a.out ≠ Str.empty
theorem place_ne {a b : Act} (ha : PlOk a) (hb : PlOk b) (ne : a ≠ b) : keyToks (placeD a) ≠ keyToks (placeD b) := fun e => by
  have h1 := place_lt ha.o hb.o
  have h2 := place_lt hb.o ha.o
  unfold dataLt at h1 h2
  rw [e, lex_irrefl] at h1
  rw [← e, lex_irrefl] at h2
  exact ne (toksA_inj ha.h hb.h (lex_total (O := itemOrd) _ _ h1.symm h2.symm))
theorem acts_ne {a b : Act} (ha : PlOk a) (hb : PlOk b) (ne : a ≠ b) : toksA a ≠ toksA b := fun e => ne (toksA_inj ha.h hb.h e)
theorem places_lt : ∀ {c d : ASet}, (∀ a ∈ c, PlOk a) → (∀ a ∈ d, PlOk a) → c ≠ d → ∀ r t r' t' : List (Int ⊕ List Nat), lexLt itemOrd (keyToksAll (c.map placeD) ++ r) (keyToksAll (d.map placeD) ++ t) = lexLt itemOrd (keyToksAll (c.map actKey) ++ r') (keyToksAll (d.map actKey) ++ t')
  | [], [], _, _, ne, _, _, _, _ => absurd rfl ne
  | [], b :: d, _, _, _, r, t, r', t' => by
    show lexLt itemOrd (.inl 0 :: r) (.inl 1 :: (keyToks (placeD b) ++ keyToksAll (d.map placeD) ++ t)) = lexLt itemOrd (.inl 0 :: r') (.inl 1 :: (keyToks (actKey b) ++ keyToksAll (d.map actKey) ++ t'))
    rw [lex_diff (O := itemOrd) (by simp), lex_diff (O := itemOrd) (by simp)]
  | a :: c, [], _, _, _, r, t, r', t' => by
    show lexLt itemOrd (.inl 1 :: (keyToks (placeD a) ++ keyToksAll (c.map placeD) ++ r)) (.inl 0 :: t) = lexLt itemOrd (.inl 1 :: (keyToks (actKey a) ++ keyToksAll (c.map actKey) ++ r')) (.inl 0 :: t')
    rw [lex_diff (O := itemOrd) (by simp), lex_diff (O := itemOrd) (by simp)]
  | a :: c, b :: d, hc, hd, ne, r, t, r', t' => by
    show lexLt itemOrd (.inl 1 :: (keyToks (placeD a) ++ keyToksAll (c.map placeD) ++ r)) (.inl 1 :: (keyToks (placeD b) ++ keyToksAll (d.map placeD) ++ t)) = lexLt itemOrd (.inl 1 :: (keyToks (actKey a) ++ keyToksAll (c.map actKey) ++ r')) (.inl 1 :: (keyToks (actKey b) ++ keyToksAll (d.map actKey) ++ t'))
    rw [lex_self (O := itemOrd), lex_self (O := itemOrd), List.append_assoc, List.append_assoc, List.append_assoc, List.append_assoc]
    by_cases e : a = b
    · subst e
      rw [lex_pre, lex_pre]
      exact places_lt (fun x hx => hc x (List.mem_cons_of_mem _ hx)) (fun x hx => hd x (List.mem_cons_of_mem _ hx)) (fun q => ne (by rw [q])) r t r' t'
    · have pa := hc a List.mem_cons_self
      have pb := hd b List.mem_cons_self
      rw [lex_app (x := keyToks (placeD a)) (y := keyToks (placeD b)) rfl (place_ne pa pb e), lex_app (x := keyToks (actKey a)) (y := keyToks (actKey b)) rfl (acts_ne pa pb e)]
      exact place_lt pa.o pb.o
/-- what the law sorts sets by -/
def lawKey (p : ASet × Nat) : PyData := .tuple [.int (p.1.length : Int), .list (p.1.map placeD), .int (p.2 : Nat)]
theorem lawKey_lt {c d : ASet} {i j : Nat} (hc : ∀ a ∈ c, PlOk a) (hd : ∀ a ∈ d, PlOk a) (ne : c ≠ d) : lexLt itemOrd (keyToks (lawKey (c, i))) (keyToks (lawKey (d, j))) = lexLt itemOrd (toksC c) (toksC d) := by
  have e1 : ∀ (c : ASet) (i : Nat), keyToks (lawKey (c, i)) = .inl 1 :: .inl (c.length : Int) :: .inl 1 :: (keyToksAll (c.map placeD) ++ [.inl 1, .inl (i : Int), .inl 0]) := fun c i => by
    show _ :: _ :: _ :: _ = _
    rfl
  rw [e1, e1, toksC_eq, toksC_eq, lex_self (O := itemOrd), lex_self (O := itemOrd)]
  by_cases h : (Sum.inl (c.length : Int) : Int ⊕ List Nat) = .inl (d.length : Int)
  · rw [h, lex_self (O := itemOrd), lex_self (O := itemOrd), lex_self (O := itemOrd), lex_self (O := itemOrd)]
    exact places_lt hc hd ne _ _ _ _
  · rw [lex_diff (O := itemOrd) h, lex_diff (O := itemOrd) h]
/-- two ascending rows of the same sets are one -/
theorem ascC_one : ∀ {as bs : List ASet}, (∀ a ∈ as, OkS a) → as.Perm bs → as.Pairwise leC → bs.Pairwise leC → as = bs
  | [], bs, _, p, _, _ => (List.nil_perm.mp p).symm
  | a :: as, [], _, p, _, _ => absurd p.length_eq (by simp)
  | a :: as, b :: bs, ok, p, h1, h2 => by
    obtain ⟨a1, a2⟩ := List.pairwise_cons.mp h1
    obtain ⟨b1, b2⟩ := List.pairwise_cons.mp h2
    have refl : ∀ x, leC x x := fun x => (leC_def x x).mpr (lex_irrefl _)
    have okb : OkS b := ok b (p.mem_iff.mpr List.mem_cons_self)
    have e : a = b := by
      refine leC_anti (ok a List.mem_cons_self) okb ?_ ?_
      · rcases List.mem_cons.mp (p.mem_iff.mpr (List.mem_cons_self (a := b) (l := bs))) with e | m
        · rw [e]; exact refl a
        · exact a1 b m
      · rcases List.mem_cons.mp (p.mem_iff.mp (List.mem_cons_self (a := a) (l := as))) with e | m
        · rw [e]; exact refl b
        · exact b1 a m
    subst e
    rw [ascC_one (fun x hx => ok x (List.mem_cons_of_mem _ hx)) p.cons_inv a2 b2]
/-- sets without twins, with their numbers, sorted as the law does, stand in their order -/
theorem law_sorted {ps : List (ASet × Nat)} (ok : ∀ p ∈ ps, ∀ a ∈ p.1, PlOk a) (nd : (ps.map (·.1)).Nodup) {ks : List ASet} (pw : ks.Pairwise leC) (pm : (ps.map (·.1)).Perm ks) : (ps.mergeSort (dataLe false lawKey)).map (·.1) = ks := by
  have T := sortLe_total (listOrd itemOrd) false fun b : ASet × Nat => keyToks (lawKey b)
  have sw : (ps.mergeSort (dataLe false lawKey)).Pairwise fun x y => dataLe false lawKey x y = true := List.pairwise_mergeSort (fun a b c h1 h2 => T.trans a b c h1 h2) (fun a b => by simpa using T.total a b) ps
  have p := List.mergeSort_perm ps (dataLe false lawKey)
  have pm2 : ((ps.mergeSort (dataLe false lawKey)).map (·.1)).Perm ks := (p.map _).trans pm
  refine ascC_one (fun c hc => ?_) pm2 ?_ pw
  · obtain ⟨x, hx, rfl⟩ := List.mem_map.mp hc
    exact fun a ha => (ok x (p.mem_iff.mp hx) a ha).h
  · have nd2 : ((ps.mergeSort (dataLe false lawKey)).map (·.1)).Nodup := (p.map _).nodup_iff.mpr nd
    refine List.pairwise_map.mpr ?_
    have nd3 := List.pairwise_map.mp nd2
    refine (List.Pairwise.imp_of_mem (fun {x y} hx hy h => ?_) (sw.and nd3))
    obtain ⟨h1, h2⟩ := h
    have h1 : (!lexLt itemOrd (keyToks (lawKey y)) (keyToks (lawKey x))) = true := h1
    refine (leC_def x.1 y.1).mpr ?_
    have := lawKey_lt (c := y.1) (d := x.1) (i := y.2) (j := x.2) (ok y (p.mem_iff.mp hy)) (ok x (p.mem_iff.mp hx)) (fun e => h2 e.symm)
    rw [← this]
    simpa using h1
/-- acts without twins, sorted by their places, are what the law gives -/
theorem place_sorted {as : List Act} (ok : ∀ a ∈ as, PlOk a) (nd : as.Nodup) : as.mergeSort (dataLe false placeD) = lawSort as := by
  rw [← lawSort_eq (bs := as) (as := as) (fun a ha => (ok a ha).h) nd fun y => Iff.rfl]
  have T := sortLe_total (listOrd itemOrd) false fun b : Act => keyToks (placeD b)
  have sw : (as.mergeSort (dataLe false placeD)).Pairwise fun x y => dataLe false placeD x y = true := List.pairwise_mergeSort (fun a b c h1 h2 => T.trans a b c h1 h2) (fun a b => by simpa using T.total a b) as
  have p := List.mergeSort_perm as (dataLe false placeD)
  refine ascA_one (fun x hx => (ok x (p.mem_iff.mp hx)).h) (p.trans (sortA_perm as).symm) ?_ (sortA_pw as)
  refine List.Pairwise.imp_of_mem (fun {x y} hx hy h => ?_) sw
  have h : (!lexLt itemOrd (keyToks (placeD y)) (keyToks (placeD x))) = true := h
  have := place_lt (ok y (p.mem_iff.mp hy)).o (ok x (p.mem_iff.mp hx)).o
  refine leA_lt.mpr ?_
  rw [← this]
  unfold dataLt
  simpa using h
end LfX
end
section
set_option Elab.async false
set_option maxRecDepth 100000
set_option linter.all false
/-! the numbers of the least sets -/
namespace K2
open PySem PySem.W PySem.Calls L2 LfX PySem.Spec PyProof.Rows
/-- no other one is in it -/
def minB (ms : List Nat) (s : Nat) : Bool := !(ms.any fun t => decide (t ≠ s) && decide (s &&& t = t))
def stepN (ms L : List Nat) (s : Nat) : List Nat := if (!decide (s ∈ L) && minB ms s) = true then L ++ [s] else L
def leastN (ms : List Nat) : List Nat := ms.foldl (stepN ms) []
theorem stepN_ok (ms : List Nat) : ∀ (xs L : List Nat), L.Nodup → (xs.foldl (stepN ms) L).Nodup ∧ ∀ s, s ∈ xs.foldl (stepN ms) L ↔ s ∈ L ∨ (s ∈ xs ∧ minB ms s = true)
  | [], L, n => ⟨n, fun s => by simp⟩
  | x :: xs, L, n => by
    rw [List.foldl_cons]
    by_cases h : (!decide (x ∈ L) && minB ms x) = true
    · have e : stepN ms L x = L ++ [x] := by unfold stepN; rw [if_pos h]
      rw [Bool.and_eq_true] at h
      have hx : x ∉ L := by simpa using h.1
      rw [e]
      obtain ⟨a, b⟩ := stepN_ok ms xs (L ++ [x]) (List.nodup_append.mpr ⟨n, by simp, fun y hy z hz e => hx (by rw [List.mem_singleton.mp hz] at e; exact e ▸ hy)⟩)
      refine ⟨a, fun s => (b s).trans ?_⟩
      rw [List.mem_append, List.mem_singleton, List.mem_cons]
      constructor
      · rintro ((q | q) | q)
        · exact .inl q
        · exact .inr ⟨.inl q, by rw [q]; exact h.2⟩
        · exact .inr ⟨.inr q.1, q.2⟩
      · rintro (q | ⟨q | q, m⟩)
        · exact .inl (.inl q)
        · exact .inl (.inr q)
        · exact .inr ⟨q, m⟩
    · have e : stepN ms L x = L := by unfold stepN; rw [if_neg h]
      rw [e]
      obtain ⟨a, b⟩ := stepN_ok ms xs L n
      refine ⟨a, fun s => (b s).trans ?_⟩
      rw [List.mem_cons]
      constructor
      · rintro (q | q)
        · exact .inl q
        · exact .inr ⟨.inr q.1, q.2⟩
      · rintro (q | ⟨q | q, m⟩)
        · exact .inl q
        · rw [q] at m ⊢
          by_cases hx : x ∈ L
          · exact .inl hx
          · exact absurd (by rw [decide_eq_false hx, m]; rfl) h
        · exact .inr ⟨q, m⟩
theorem leastN_nd (ms : List Nat) : (leastN ms).Nodup := (stepN_ok ms ms [] List.nodup_nil).1
theorem mem_leastN {ms : List Nat} {s : Nat} : s ∈ leastN ms ↔ s ∈ ms ∧ ∀ t ∈ ms, s &&& t = t → t = s := by
  unfold leastN
  rw [(stepN_ok ms ms [] List.nodup_nil).2 s]
  have e : minB ms s = true ↔ ∀ t ∈ ms, s &&& t = t → t = s := by
    unfold minB
    rw [Bool.not_eq_true', List.any_eq_false]
    constructor
    · intro h t ht e
      refine Classical.byContradiction fun ne => h t ht ?_
      rw [decide_eq_true ne, decide_eq_true e]
      rfl
    · intro h t ht q
      rw [Bool.and_eq_true, decide_eq_true_iff, decide_eq_true_iff] at q
      exact q.1 (h t ht q.2)
  rw [e]
  simp
theorem leastN_len (ms : List Nat) : (leastN ms).length ≤ ms.length := (leastN_nd ms).length_le_of_subset fun s hs => (mem_leastN.mp hs).1
/-- the set of a number -/
abbrev setN (U : ASet) (s : Nat) : ASet := lawSort (bitsF U s)
theorem setN_sub {U : ASet} (u : OkV U) {s t : Nat} (ht : t < 2 ^ U.length) : SubS (setN U t) (setN U s) ↔ s &&& t = t := by
  rw [← sub_bits u.nd ht]
  exact ⟨fun h a ha => (lawSort_mem _ a).mp (h a ((lawSort_mem _ a).mpr ha)), fun h a ha => (lawSort_mem _ a).mpr (h a ((lawSort_mem _ a).mp ha))⟩
theorem setN_inj {U : ASet} (u : OkV U) {s t : Nat} (hs : s < 2 ^ U.length) (ht : t < 2 ^ U.length) (e : setN U s = setN U t) : s = t := by
  have h1 := (setN_sub u (s := s) ht).mp (by rw [e]; exact SubS.refl _)
  have h2 := (setN_sub u (s := t) hs).mp (by rw [e]; exact SubS.refl _)
  rw [Nat.and_comm] at h2
  exact h2.symm.trans h1
theorem setN_kept {U : ASet} (u : OkV U) (s : Nat) : Kept (setN U s) := (GS.of (bitsF_w u.w s)).k
theorem leastN_sets {U : ASet} (u : OkV U) {ms : List Nat} (n : Nums U ms) (c : ASet) : c ∈ leastC (numC U ms) ↔ ∃ s ∈ leastN ms, c = setN U s := by
  have kp : ∀ c ∈ numC U ms, Kept c := fun c hc => by
    obtain ⟨m, _, rfl⟩ := List.mem_map.mp hc
    exact setN_kept u m
  have L := least_ok kp
  constructor
  · intro hc
    obtain ⟨s, hs, rfl⟩ := List.mem_map.mp (L.mem c hc)
    refine ⟨s, mem_leastN.mpr ⟨hs, fun t ht e => ?_⟩, rfl⟩
    obtain ⟨k, hk, sub⟩ := L.all (setN U t) (List.mem_map.mpr ⟨t, ht, rfl⟩)
    have e1 := (setN_sub u (s := s) (n t ht)).mpr e
    have ek := L.anti k hk _ hc fun a ha => e1 a (sub a ha)
    rw [ek] at sub
    exact setN_inj u (n t ht) (n s hs) ((setN_kept u t).one (setN_kept u s) e1 sub)
  · rintro ⟨s, hs, rfl⟩
    obtain ⟨h1, h2⟩ := mem_leastN.mp hs
    obtain ⟨k, hk, sub⟩ := L.all (setN U s) (List.mem_map.mpr ⟨s, h1, rfl⟩)
    obtain ⟨t, ht, rfl⟩ := List.mem_map.mp (L.mem k hk)
    have := h2 t ht ((setN_sub u (n t ht)).mp sub)
    rw [this] at hk
    exact hk
/-- the least sets in the law's first order -/
def setsL (U : ASet) (ms : List Nat) : List ASet := (leastN ms).map (setN U)
theorem setsL_nd {U : ASet} (u : OkV U) {ms : List Nat} (n : Nums U ms) : (setsL U ms).Nodup := by
  refine List.pairwise_map.mpr (List.Pairwise.imp_of_mem (fun {x y} hx hy ne e => ?_) (leastN_nd ms))
  exact ne (setN_inj u (n x (mem_leastN.mp hx).1) (n y (mem_leastN.mp hy).1) e)
theorem setsL_perm {U : ASet} (u : OkV U) {ms : List Nat} (n : Nums U ms) : (setsL U ms).Perm (leastC (numC U ms)) := by
  have kp : ∀ c ∈ numC U ms, Kept c := fun c hc => by
    obtain ⟨m, _, rfl⟩ := List.mem_map.mp hc
    exact setN_kept u m
  refine (List.perm_ext_iff_of_nodup (setsL_nd u n) (least_ok kp).nd).mpr fun c => ?_
  rw [leastN_sets u n]
  unfold setsL
  rw [List.mem_map]
  exact ⟨fun ⟨s, a, b⟩ => ⟨s, a, b.symm⟩, fun ⟨s, a, b⟩ => ⟨s, a, b.symm⟩⟩
theorem plOk_w {a : LfX.Act} (h : ActW a) : PlOk a := ⟨h.hdok, h.one⟩
/-- with their places -/
def itemsL (U : ASet) (ms : List Nat) : List (ASet × Nat) := (List.range (setsL U ms).length).map fun k => ((setsL U ms).getD k [], k)
theorem itemsL_fst (U : ASet) (ms : List Nat) : (itemsL U ms).map (·.1) = setsL U ms := by
  unfold itemsL
  rw [List.map_map]
  refine List.ext_getElem? fun j => ?_
  rw [List.getElem?_map]
  by_cases h : j < (setsL U ms).length
  · rw [List.getElem?_range h, List.getElem?_eq_getElem h]
    show some ((setsL U ms).getD j []) = _
    rw [List.getD_eq_getElem?_getD, List.getElem?_eq_getElem h]
    rfl
  · rw [List.getElem?_eq_none (by rw [List.length_range]; omega), List.getElem?_eq_none (by omega)]
    rfl
theorem items_sorted {U : ASet} (u : OkV U) {ms : List Nat} (n : Nums U ms) : ((itemsL U ms).mergeSort (dataLe false lawKey)).map (·.1) = leastC (numC U ms) := by
  have kp : ∀ c ∈ numC U ms, Kept c := fun c hc => by
    obtain ⟨m, _, rfl⟩ := List.mem_map.mp hc
    exact setN_kept u m
  refine law_sorted (fun p hp a ha => ?_) (by rw [itemsL_fst]; exact setsL_nd u n) (least_ok kp).pw (by rw [itemsL_fst]; exact setsL_perm u n)
  have hm : p.1 ∈ setsL U ms := by rw [← itemsL_fst]; exact List.mem_map.mpr ⟨p, hp, rfl⟩
  obtain ⟨s, _, e⟩ := List.mem_map.mp hm
  rw [← e] at ha
  exact plOk_w (bitsF_w u.w s a ((lawSort_mem _ a).mp ha))
/-! all that is used -/
def usedN (ms : List Nat) : Nat := (leastN ms).foldl (· ||| ·) 0
theorem or_bit (j : Nat) : ∀ (xs : List Nat) (m : Nat), (xs.foldl (· ||| ·) m).testBit j = (m.testBit j || xs.any fun x => x.testBit j)
  | [], m => by simp
  | x :: xs, m => by rw [List.foldl_cons, or_bit j xs, Nat.testBit_or, List.any_cons, Bool.or_assoc]
theorem used_wide {ms : List Nat} (n : Nums U9 ms) (e : usedN ms = 511) : ¬ InU 8 (leastC (numC U9 ms)) := by
  rintro ⟨V, v1, v2⟩
  have := u9_nd.length_le_of_subset (l₂ := V) fun a ha => by
    have hb : (usedN ms).testBit (U9.idxOf a) = true := by
      rw [e, show (511 : Nat) = 2 ^ 9 - 1 from rfl, Nat.testBit_two_pow_sub_one]
      have := List.idxOf_lt_length_of_mem ha
      rw [u9_len] at this
      exact decide_eq_true this
    unfold usedN at hb
    rw [or_bit, Nat.zero_testBit, Bool.false_or, List.any_eq_true] at hb
    obtain ⟨s, hs, h⟩ := hb
    exact v2 _ ((leastN_sets u9 n _).mpr ⟨s, hs, rfl⟩) a ((lawSort_mem _ a).mpr (mem_bitsF.mpr ⟨ha, h⟩))
  rw [u9_len] at this
  omega
theorem used_lt {ms : List Nat} (n : Nums U9 ms) : usedN ms < 512 := by
  have h : ∀ (xs : List Nat) (m : Nat), m < 2 ^ 9 → (∀ x ∈ xs, x < 2 ^ 9) → xs.foldl (· ||| ·) m < 2 ^ 9 := by
    intro xs
    induction xs with
    | nil => exact fun m h _ => h
    | cons x xs ih => exact fun m h k => ih _ (Nat.or_lt_two_pow h (k x List.mem_cons_self)) fun y hy => k y (List.mem_cons_of_mem _ hy)
  exact h (leastN ms) 0 (by decide) fun x hx => by
    have := n x (mem_leastN.mp hx).1
    rwa [u9_len] at this
theorem used_few {ms : List Nat} (n : Nums U9 ms) (e : usedN ms ≠ 511) : InU 8 (leastC (numC U9 ms)) := by
  refine ⟨bitsF U9 (usedN ms), ?_, fun c hc a ha => ?_⟩
  · have h1 := bitsF_len U9 (usedN ms)
    rw [u9_len] at h1
    refine Nat.le_of_lt_succ (Nat.lt_of_le_of_ne h1 fun q => e ?_)
    have all : ∀ a ∈ U9, (usedN ms).testBit (U9.idxOf a) = true := by
      have e2 : bitsF U9 (usedN ms) = U9 := List.filter_sublist.eq_of_length (by rw [u9_len]; exact q)
      exact List.filter_eq_self.mp e2
    apply Nat.eq_of_testBit_eq
    intro j
    rw [show (511 : Nat) = 2 ^ 9 - 1 from rfl, Nat.testBit_two_pow_sub_one]
    by_cases hj : j < 9
    · have jl : j < U9.length := by rw [u9_len]; exact hj
      have := all U9[j] (List.getElem_mem jl)
      rw [idx_at u9_nd (List.getElem?_eq_getElem jl)] at this
      rw [this, decide_eq_true hj]
    · rw [decide_eq_false hj]
      exact Nat.testBit_lt_two_pow (Nat.lt_of_lt_of_le (used_lt n) (Nat.pow_le_pow_right (n := 2) (by decide) (show 9 ≤ j by omega)))
  · obtain ⟨s, hs, rfl⟩ := (leastN_sets u9 n c).mp hc
    have hb := mem_bitsF.mp ((lawSort_mem _ a).mp ha)
    refine mem_bitsF.mpr ⟨hb.1, ?_⟩
    unfold usedN
    rw [or_bit, Nat.zero_testBit, Bool.false_or, List.any_eq_true]
    exact ⟨s, hs, hb.2⟩
end K2
end
section
set_option Elab.async false
set_option maxRecDepth 100000
set_option linter.all false
/-! == of tuples by an own __eq__: true or false -/
namespace GQ
open PySem PySem.SeqAt
open AutoSeq1 (wpAny_loadPart')
open MeetsSeq MeetsSeq2 MeetsSeq3 SeqRoads2
section
variable {prog : Program} {w : World} {A : Around} {R : Result → Shared → Prop}
theorem tuple_eqB (l b : Addr) (items items2 : Array Value) (n n2 : Nat) (dd dd2 : Option Addr) (sl sl2 : Array (Option Value)) (e : Nat → Bool) (I : Nat → Shared → Prop)
    (turn : ∀ i (h1 : i < items.size) (h2 : i < items2.size) s, I i s → wpAny (model prog w) A.in1 (eqBool items[i] items2[i]) (fun r s' => r = e i ∧ I (i + 1) s') (fun e s' => R (.error e) s') s)
    (fin : ∀ i s, I i s → R (.ok (.ret (.bool ((List.range (min items.size items2.size)).all e && items.size == items2.size)))) s) {s : Shared} (hl1 : s.heap.get? l = some { cls := .type "tuple", dict := dd, data := .seq items n, slots := sl }) (hb1 : s.heap.get? b = some { cls := .type "tuple", dict := dd2, data := .seq items2 n2, slots := sl2 }) (h : I 0 s) :
    wpAny (model prog w) A.in1 (Builtin.«tuple.__eq__» ⟨[.ref l, .ref b], []⟩) (FinOf prog w A R) (fun e s' => R (.error e) s') s := by
  have f2 := AutoSeq1.sub_tuple_tuple
  have hZ : (items.toList.zip items2.toList).length = min items.size items2.size := by simp
  have h0 := h
  obtain ⟨hp, g, d, tk, os⟩ := s
  wp_walk using wpAny_loadPart' hl1, wpAny_loadPart' hb1, wpAny_forIn_list _ (fun rest b s' => b.1 = none ∧ ∃ i, rest = (items.toList.zip items2.toList).drop i ∧ i ≤ min items.size items2.size ∧ (∀ j, j < i → e j = true) ∧ I i s') _
  case turn =>
    rintro ⟨y, x⟩ rest b s' ⟨hb', i, hz, hi, hj, hI⟩
    have hlt : i < (items.toList.zip items2.toList).length := by
      rcases Nat.lt_or_ge i (items.toList.zip items2.toList).length with h' | h'
      · exact h'
      · rw [List.drop_of_length_le h'] at hz; cases hz
    have hm : i < min items.size items2.size := hZ ▸ hlt
    have h1 : i < items.size := Nat.lt_of_lt_of_le hm (Nat.min_le_left _ _)
    have h2 : i < items2.size := Nat.lt_of_lt_of_le hm (Nat.min_le_right _ _)
    rw [List.drop_eq_getElem_cons hlt] at hz
    injection hz with hyx hrest
    have hy : y = items[i] := by have := congrArg Prod.fst hyx; simpa using this
    have hx : x = items2[i] := by have := congrArg Prod.snd hyx; simpa using this
    subst hy hx
    refine wpAny_bind (wpAny_mono (turn i h1 h2 s' hI) (fun r s2 q2 => ?_) fun _ _ x => x)
    obtain ⟨hr, q2⟩ := q2
    subst hr
    cases he : e i with
    | true =>
      wp_walk
      exact ⟨rfl, i + 1, hrest, hm, fun j hj2 => (Nat.lt_succ_iff_lt_or_eq.mp hj2).elim (hj j) fun q => by rw [q]; exact he, q2⟩
    | false =>
      have hR := fin _ _ q2
      have ev : ((List.range (min items.size items2.size)).all e && items.size == items2.size) = false := by
        have : (List.range (min items.size items2.size)).all e = false := List.all_eq_false.mpr ⟨i, List.mem_range.mpr hm, by rw [he]; exact Bool.false_ne_true⟩
        rw [this]; rfl
      rw [ev] at hR
      wp_walk
      exact hR
  case fin =>
    rintro ⟨b1, b2⟩ s' ⟨hb', i, hz, hi, hj, hI⟩
    simp only at hb'
    subst hb'
    have hge : min items.size items2.size ≤ i := by
      rcases Nat.lt_or_ge i (items.toList.zip items2.toList).length with h' | h'
      · rw [List.drop_eq_getElem_cons h'] at hz; cases hz
      · exact hZ ▸ h'
    have hR := fin _ _ hI
    have ev : (List.range (min items.size items2.size)).all e = true := List.all_eq_true.mpr fun j hjm => hj j (Nat.lt_of_lt_of_le (List.mem_range.mp hjm) hge)
    rw [ev, Bool.true_and] at hR
    wp_walk
    simpa [Builtin.Tuple.tupleCompareSizes] using hR
  case h =>
    exact ⟨rfl, 0, rfl, Nat.zero_le _, fun j h => absurd h (Nat.not_lt_zero j), h0⟩
end
section
variable {prog : Program} {w : World} {A : Around} {E : Value → Shared → Prop} {s : Shared}
theorem rc_tupB {l b : Addr} {items items2 : Array Value} {Q : Value → Shared → Prop} (e : Nat → Bool) (hu : A.units < cLine) (I : Nat → Shared → Prop)
    (hl : s.heap.IsTuple l items) (hb : s.heap.IsTuple b items2)
    (turn : ∀ i (h1 : i < items.size) (h2 : i < items2.size) s, I i s → wpAny (model prog w) A.in1 (eqBool items[i] items2[i]) (fun r s' => r = e i ∧ I (i + 1) s') E s)
    (fin : ∀ i s, I i s → Q (.bool ((List.range (min items.size items2.size)).all e && items.size == items2.size)) s) (h : I 0 s) : wpAny (model prog w) A (richCompare .Eq (.ref l) (.ref b)) Q E s := by
  obtain ⟨⟨cls, dd, data, sl⟩, ho, hc, n, hd⟩ := id hl
  obtain ⟨⟨cls2, dd2, data2, sl2⟩, ho2, hc2, n2, hd2⟩ := id hb
  simp only at hc hd hc2 hd2
  subst hc hd hc2 hd2
  refine wpAny_richCompare_same_room (op := .Eq) ⟨_, ho, rfl⟩ ⟨_, ho2, rfl⟩ F.slot_tuple_eq (call_here F.slot_tuple_eq ⟨_, ho, rfl⟩ F.entry_tuple_eq (F.args_tuple_eq_2 _ _) ?_) hu
  exact tuple_eqB (R := wants (fun v s' => v ≠ .notImplemented ∧ Q v s') E) l b items items2 n n2 dd dd2 sl sl2 e I turn (fun i s' q => ⟨(fun x => nomatch x), fin i s' q⟩) ho ho2 h
end
end GQ
end
section
set_option Elab.async false
set_option maxRecDepth 100000
set_option linter.all false
/-! == of demands: true or false -/
namespace L2
open PySem PySem.Spec PyProof.Rows
/-- what two values' == gives, by the abstract heap -/
abbrev Eqb := V → V → Hp → Bool → Prop
def MonB (D : Eqb) : Prop := ∀ x y H H' c, Ext H H' → D x y H c → D x y H' c
def EqB (X : Cx) (n : Nat) (D : Eqb) : Prop :=
  ∀ (A : Around) (pins : List (Addr × Obj)) (s : Shared) (σ : St) (H : Hp) (x y : V) (u v : Value) (c : Bool), Sub X n A → Inv X pins σ H s → RelV x u → RelV y v → D x y H c →
    wpAny (model X.prog X.w) A (eqBool u v) (fun r s' => r = c ∧ ∃ H', Inv X pins σ H' s' ∧ Ext H H') X.xe s
def RcB (X : Cx) (n : Nat) (D : Eqb) : Prop :=
  ∀ (A : Around) (pins : List (Addr × Obj)) (s : Shared) (σ : St) (H : Hp) (x y : V) (u v : Value) (c : Bool), Sub X n A → Inv X pins σ H s → RelV x u → RelV y v → D x y H c →
    wpAny (model X.prog X.w) A (richCompare .Eq u v) (fun r s' => r = .bool c ∧ ∃ H', Inv X pins σ H' s' ∧ Ext H H') X.xe s
/-- item by item, as far as both go -/
def PrsB (D : Eqb) (xs ys : List V) (H : Hp) (e : Nat → Bool) : Prop := ∀ (i : Nat) x y, xs[i]? = some x → ys[i]? = some y → D x y H (e i)
def DTupB (K : PySem.W.Frag) (D : Eqb) : Eqb := fun x y H c => ∃ a b xs ys e, x = .ref a ∧ y = .ref b ∧ SqT K H a xs ∧ SqT K H b ys ∧ PrsB D xs ys H e ∧ c = ((List.range (min xs.length ys.length)).all e && xs.length == ys.length)
def DInsB (C : Addr) (R : Addr → Addr → Hp → Bool → Prop) : Eqb := fun x y H c => ∃ a b dx dy fs gs, x = .ref a ∧ y = .ref b ∧ H a = some (.ins C dx fs) ∧ H b = some (.ins C dy gs) ∧ R a b H c
def spEqB (R : Addr → Addr → Hp → Bool → Prop) : Sp := fun vs H Q _ => ∃ a b c, vs = [.ref a, .ref b] ∧ R a b H c ∧ ∀ H', Ext H H' → Q (.bl c) H'
def rEqB (D : Eqb) : R2 := fun x y H Q => ∃ c, D x y H c ∧ ∀ H', Ext H H' → Q (.bl c) H'
section
variable {X : Cx} {n : Nat} {D : Eqb}
theorem mon_insB {C : Addr} {R : Addr → Addr → Hp → Bool → Prop} (hR : ∀ a b H H' c, Ext H H' → R a b H c → R a b H' c) : MonB (DInsB C R) := fun x y H H' c e d => by
  obtain ⟨a, b, dx, dy, fs, gs, hx, hy, h1, h2, r⟩ := d
  exact ⟨a, b, dx, dy, fs, gs, hx, hy, e _ _ h1, e _ _ h2, hR a b H H' c e r⟩
theorem rcB_tup (hD : MonB D) (h : EqB X n D) : RcB X (n + 1) (DTupB X.K D) := by
  intro A pins s σ H x y u v c sb I rx ry d
  obtain ⟨a, b, xs, ys, e, rfl, rfl, ha, hb, p, ec⟩ := d
  cases rx
  cases ry
  obtain ⟨its, r, e1, z⟩ := I.tuple ha
  obtain ⟨its2, r2, e2, z2⟩ := I.tuple hb
  refine GQ.rc_tupB e sb.room.units0 (fun _ s' => LoopI X pins σ H s') e1 e2 (fun i h1 h2 s' l => ?_) (fun i s' q => ?_) ⟨H, I, Ext.rfl'⟩
  · obtain ⟨H1, I1, x1⟩ := l
    have g1 : its[i]? = some its.toArray[i] := by
      have h1' : i < its.length := by simpa using h1
      rw [List.getElem?_eq_getElem h1'] <;> simp
    have g2 : its2[i]? = some its2.toArray[i] := by
      have h2' : i < its2.length := by simpa using h2
      rw [List.getElem?_eq_getElem h2'] <;> simp
    have k1 : i < xs.length := by rw [r.length]; simpa using h1
    have k2 : i < ys.length := by rw [r2.length]; simpa using h2
    obtain ⟨u, hu, ru⟩ := r.get (List.getElem?_eq_getElem k1)
    obtain ⟨v, hv, rv⟩ := r2.get (List.getElem?_eq_getElem k2)
    rw [g1] at hu
    rw [g2] at hv
    rw [Option.some.inj hu, Option.some.inj hv]
    refine wpAny_mono (h A.in1 pins s' σ H1 _ _ u v _ sb.in1 I1 ru rv (hD _ _ _ _ _ x1 (p i _ _ (List.getElem?_eq_getElem k1) (List.getElem?_eq_getElem k2)))) (fun r s2 q => ?_) fun _ _ x => x
    obtain ⟨hr, H2, I2, x2⟩ := q
    exact ⟨hr, H2, I2, x1.trans x2⟩
  · refine ⟨?_, q⟩
    rw [ec, List.size_toArray, List.size_toArray, ← r.length, ← r2.length]
theorem rcB_ins {CX : CXT} {C f : Addr} {fd : FuncData} {ps : List Str} {R : Addr → Addr → Hp → Bool → Prop} {E : XK} (F : FnOk X.prog X.w X.K X.mg X.base CX n f fd ps (spEqB R))
    (hs : PySem.W.findIn X.K (.ref C) "__eq__" = some (some (.ref f))) (hf : PySem.W.isFn X.K (.ref f) = true) (hb : Binds X.K fd ps []) (hx : Passes CX X E) : RcB X n (DInsB C R) := by
  intro A pins s σ H x y u v c sb I rx ry d
  obtain ⟨a, b, dx, dy, fs, gs, rfl, rfl, ha, hb', hr⟩ := d
  cases rx
  cases ry
  obtain ⟨mA, J, _⟩ := ins_get I.hok ha
  obtain ⟨mB, J', _⟩ := ins_get I.hok hb'
  obtain ⟨od, J, _⟩ := J.look
  obtain ⟨od', J', _⟩ := J'.look
  obtain ⟨m, hF⟩ := I.fr
  refine PySem.W.cmp_K (op := .Eq) (tb := .ref C) sb.room.units0 hF I.ok.mod.kin J J'.type (by simp [PySem.W.notFirst]) hs hf ?_
  have hsp : spEqB R [.ref a, .ref b] H (fun v H' => v = .bl c ∧ Ext H H') E := ⟨a, b, c, rfl, hr, fun H' e => ⟨rfl, e⟩⟩
  have e0 : Env0 X.prog X.w X.K X.mg X.base A X.stack s H := by
    have e := I.env0
    exact ⟨by rw [sb.fr]; exact e.frames, e.mod, e.bs, e.bsz, e.funs, e.frf, e.hok, e.bare⟩
  have hl := F.len _ _ _ _ hsp
  have r2 : Vals [V.ref a, V.ref b] [Value.ref a, Value.ref b] := .cons rfl (.cons rfl .nil)
  refine wpAny_call (codeAny_mono (F.run A X.stack s H ⟨[.ref a, .ref b], []⟩ [.ref a, .ref b] [.ref a, .ref b] _ E sb.room e0 (by
    have := hb s [.ref a, .ref b] I.kIn (by simpa using hl)
    simpa using this) r2 hsp) fun r s' hq => ?_)
  cases r with
  | error e => exact hx pins σ H s e s' I hq
  | ok fl =>
    cases fl with
    | ret w =>
      obtain ⟨z, H', I', rz, ez, ex⟩ := I.after hq
      subst ez
      cases rz
      exact ⟨rfl, H', I', ex⟩
    | next => exact False.elim hq
    | brk => exact False.elim hq
    | cont => exact False.elim hq
theorem eqB_ins {CX : CXT} {C f : Addr} {fd : FuncData} {ps : List Str} {R : Addr → Addr → Hp → Bool → Prop} {E : XK} (F : FnOk X.prog X.w X.K X.mg X.base CX n f fd ps (spEqB R))
    (hs : PySem.W.findIn X.K (.ref C) "__eq__" = some (some (.ref f))) (hf : PySem.W.isFn X.K (.ref f) = true) (hb : Binds X.K fd ps []) (hx : Passes CX X E) (same : ∀ a H c, R a a H c → c = true) : EqB X n (DInsB C R) := by
  intro A pins s σ H x y u v c sb I rx ry d
  obtain ⟨a, b, dx, dy, fs, gs, rfl, rfl, ha, hb', hr⟩ := id d
  cases rx
  cases ry
  by_cases hab : a = b
  · subst hab
    obtain rfl := same _ _ _ hr
    exact SeqAt.EqAt.same (A := A) (s := s) (.ref a) X.prog X.w X.xe _ ⟨rfl, H, I, Ext.rfl'⟩
  · refine GQ.eqBool_refG hab (wpAny_mono (rcB_ins F hs hf hb hx A pins s σ H (.ref a) (.ref b) _ _ c sb I rfl rfl d) (fun r s' q => ?_) fun _ _ x => x)
    obtain ⟨hr', q⟩ := q
    exact ⟨c, hr', rfl, q⟩
theorem op_eqB (h : RcB X n D) (hr : Room n X.A) : OpR X (compareOp .Eq) (rEqB D) := by
  intro pins s σ H x y v u Q I rx ry hq
  obtain ⟨c, d, q⟩ := hq
  show wpAny (model X.prog X.w) X.A (richCompare .Eq v u) (EP X pins σ Q) X.xe s
  refine wpAny_mono (h X.A pins s σ H x y v u c ⟨hr, rfl⟩ I rx ry d) (fun r s' z => ?_) fun _ _ x => x
  obtain ⟨hr', H', I', e⟩ := z
  subst hr'
  exact ⟨.bl c, H', I', rfl, q H' e⟩
end
end L2
namespace K2
open PySem PySem.W PySem.Calls L2 LfX PySem.Spec PyProof.Rows
def EqSB (P : Program) (w : World) (C : Addr) : Addr → Addr → Hp → Bool → Prop := fun a b H r => ∃ c d : ASet, AcW P w C H a c ∧ AcW P w C H b d ∧ AllW c ∧ AllW d ∧ r = decide (c = d)
theorem actVs_inj {a b : LfX.Act} (h : actVs a = actVs b) : a = b := by
  obtain ⟨c1, h1, o1⟩ := a
  obtain ⟨c2, h2, o2⟩ := b
  unfold actVs at h
  simp only [List.cons.injEq, V.str.injEq, and_true] at h
  obtain ⟨e1, e2, e3⟩ := h
  subst e1 e3
  cases h1 <;> cases h2
  · rfl
  · cases e2
  · cases e2
  · cases e2; rfl
theorem ActsAt.one {H : Hp} {qs : List Addr} {as bs : List LfX.Act} (h : ActsAt H qs as) (k : ActsAt H qs bs) : as = bs := by
  refine List.ext_getElem? fun j => ?_
  by_cases hj : j < qs.length
  · have h1 : j < as.length := by rw [← h.1]; exact hj
    have h2 : j < bs.length := by rw [← k.1]; exact hj
    have e1 := h.2 j _ _ (List.getElem?_eq_getElem hj) (List.getElem?_eq_getElem h1)
    have e2 := k.2 j _ _ (List.getElem?_eq_getElem hj) (List.getElem?_eq_getElem h2)
    rw [e1] at e2
    rw [List.getElem?_eq_getElem h1, List.getElem?_eq_getElem h2]
    have e3 : actVs as[j] = actVs bs[j] := by injection e2 with e; injection e
    rw [actVs_inj e3]
  · rw [List.getElem?_eq_none (by rw [← h.1]; omega), List.getElem?_eq_none (by rw [← k.1]; omega)]
theorem AcW.one {P : Program} {w : World} {C p : Addr} {H : Hp} {c d : ASet} (h : AcW P w C H p c) (k : AcW P w C H p d) : c = d := by
  obtain ⟨dx, d1, r, xs, qs, h1, h2, h3, h4, h5⟩ := h
  obtain ⟨dy, d2, r2, ys, qs2, k1, k2, k3, k4, k5⟩ := k
  rw [h1] at k1
  have e : fldA d1 r = fldA d2 r2 := by injection k1 with e; injection e
  have e1 := fldA_rows d1 r
  rw [e, fldA_rows] at e1
  have er : r2 = r := by injection e1 with e1; injection e1
  rw [er, h4] at k4
  have eq : qs.map V.ref = qs2.map V.ref := by injection k4 with e; injection e
  have eq2 : qs = qs2 := by
    have := congrArg (List.filterMap fun v : V => match v with | .ref a => some a | _ => none) eq
    simpa [List.filterMap_map, Function.comp_def] using this
  rw [← eq2] at k5
  exact ActsAt.one h5 k5
end K2
end
section
set_option Elab.async false
set_option maxRecDepth 100000
set_option linter.all false
/-! demands: ==, made of tuples; the law: least numbers, places, rows -/
namespace K2
open PySem PySem.W PySem.Calls L2 LfX PySem.Spec PyProof.Rows
abbrev sLN : Stmt := top 32
abbrev sPl : Stmt := top 34
abbrev sRw : Stmt := top 35
abbrev nLN : List Str := ["_law_numbers_here", "_law_found", "_law_s", "_law_t"]
abbrev nRw : List Str := ["_law_acts_here", "_law_s"]
/-- what is there to be compared with: demands, or a list -/
def spDeB (P : Program) (w : World) (C D : Addr) : Sp := fun vs H Q _ => ∃ (o : Addr) (y : V) (ks : List ASet), vs = [.ref o, y] ∧ DmW P w C D H o ks ∧ (∀ c ∈ ks, AllW c) ∧
  ((∃ (q : Addr) (ls : List ASet), y = .ref q ∧ DmW P w C D H q ls ∧ (∀ c ∈ ls, AllW c) ∧ ∀ H', Same H H' → Q (.bl (decide (ks = ls))) H') ∨ (∃ (l : Addr) (xs : List V), y = .ref l ∧ H l = some (.lst xs) ∧ Q (.bl false) H))
def spDmT (P : Program) (w : World) (C D CT : Addr) : Sp := fun vs H Q E => ∃ (l : Addr) (os : List Addr) (cs : List ASet), vs = [.ref D, .ref l] ∧ (H l = some (.tup (os.map V.ref)) ∨ H l = some (.lst (os.map V.ref))) ∧ SetsAt P w C H os cs ∧ OkB cs ∧ OutD P w C D CT cs H Q E
def spLN : Sp := fun vs H Q _ => ∃ (ln : Addr) (ms : List Nat), vs = [.ref ln] ∧ H ln = some (.lst (intsV ms)) ∧ ms.length ≤ 100 ∧ ∀ (r : Addr) (H' : Hp), H' r = some (.lst (intsV (leastN ms))) → H r = none → Same H H' → Q (.ref r) H'
def spRw : Sp := fun vs H Q _ => ∃ (l : Addr) (ts : List Addr) (U : ASet) (m : Nat), vs = [.ref l, .int (m : Nat)] ∧ UAt H l ts U ∧ OkV U ∧
  ∀ (r : Addr) (qs : List Addr) (H' : Hp), H' r = some (.lst (qs.map V.ref)) → ActsAt H' qs (setN U m) → H r = none → Same H H' → Q (.ref r) H'
theorem inV_ints (s : Nat) (L : List Nat) : inV (.int (s : Nat)) (intsV L) = decide (s ∈ L) := by
  unfold inV intsV
  rw [List.any_map]
  induction L with
  | nil => rfl
  | cons x L ih =>
    rw [List.any_cons, ih]
    show ((eqV (.int (x : Nat)) (.int (s : Nat))) || _) = _
    have e : eqV (.int ((x : Nat) : Int)) (.int ((s : Nat) : Int)) = decide (x = s) := by
      have : eqV (.int ((x : Nat) : Int)) (.int ((s : Nat) : Int)) = (((x : Nat) : Int) == ((s : Nat) : Int)) := rfl
      rw [this]
      by_cases h : x = s
      · rw [h]; simp
      · have : ¬ ((x : Nat) : Int) = ((s : Nat) : Int) := fun q => h (by omega)
        simp [h, this]
    rw [e]
    by_cases h : x = s
    · simp [h]
    · have : ¬ s = x := fun q => h q.symm
      simp [h, this]
theorem flat_ints (L : List Nat) : (intsV L).all flatV = true := by
  unfold intsV
  rw [List.all_map]
  exact List.all_eq_true.mpr fun _ _ => rfl
theorem all_zip (ks ls : List ASet) : ((List.range (min ks.length ls.length)).all (fun i => decide (ks[i]? = ls[i]?)) && ks.length == ls.length) = decide (ks = ls) := by
  rw [Bool.eq_iff_iff, Bool.and_eq_true, List.all_eq_true, decide_eq_true_iff]
  constructor
  · rintro ⟨h1, h2⟩
    have h2 : ks.length = ls.length := by simpa using h2
    refine List.ext_getElem? fun i => ?_
    by_cases hi : i < min ks.length ls.length
    · exact of_decide_eq_true (h1 i (List.mem_range.mpr hi))
    · rw [List.getElem?_eq_none (by omega), List.getElem?_eq_none (by omega)]
  · rintro rfl
    exact ⟨fun _ _ => decide_eq_true rfl, by simp⟩
section
variable {P : Program} {w : World} {K : PySem.W.Frag} {mg : Str → Option Value} {base : Heap} {C D CT f : Addr} {fd : FuncData}
theorem eqSB_of {fQe : Addr} {fdQe : FuncData} (G : FnOk P w K mg base CX0 1 fQe fdQe ["self", "other"] (spEqA P w K C)) : FnOk P w K mg base CX0 1 fQe fdQe ["self", "other"] (spEqB (EqSB P w C)) :=
  G.imp fun vs H Q E h => by
    obtain ⟨a, b, r, rfl, ⟨c, d, h1, h2, h3, h4, e⟩, k⟩ := h
    exact ⟨a, .ref b, c, rfl, h1, h3, .inl ⟨b, d, rfl, h2, h4, by rw [← e]; exact k H fun _ _ e => e⟩⟩
theorem ok_deB {fQe : Addr} {fdQe : FuncData} (F : Fun K "__eq__" "Demands.__eq__" sDe f fd) (Y : TxD K mg D) (T : Bi mg) (O : OwnA K D) (kLi : PySem.W.kitOne K (.type "list") (.ref D) = some false) (GQe : FnOk P w K mg base CX0 1 fQe fdQe ["self", "other"] (spEqA P w K C)) (bQe : Binds K fdQe ["self", "other"] [])
    (hQe : PySem.W.findIn K (.ref C) "__eq__" = some (some (.ref fQe))) (hQef : PySem.W.isFn K (.ref fQe) = true) : FnOk P w K mg base CX0 3 f fd ["self", "other"] (spDeB P w C D) := by
  refine F.ok scDe (fun vs H Q E h => ?_) (fun cdv A outer s H vs Q E hr h => ?_)
  · obtain ⟨o, y, ks, rfl, _⟩ := h
    rfl
  · obtain ⟨o, y, ks, rfl, dw, g, k⟩ := h
    have hr2 : Room 2 _ := hr
    have hm : MonB (DInsB C (EqSB P w C)) := mon_insB fun a b H H' c e ⟨x, y, h1, h2, h3⟩ => ⟨x, y, h1.same e, h2.same e, h3⟩
    refine ⟨_, pss_one (ps_ret (pe_and (pe_callB call_isi (by rfl) T.isinstance (by decide +kernel) (pa_cons (pv 1) (pa_cons (pe_glob (v := .ref D) rfl Y.mgD rfl) pa_nil))) (pe_one (pe_cmpR (op_eqB (n := 2) (rcB_tup hm (eqB_ins (eqSB_of GQe) hQe hQef bQe pass0 fun a H c ⟨x, y, h1, h2, _, _, e⟩ => by rw [e, AcW.one h1 h2]; exact decide_eq_true rfl)) hr2) (pe_fld (pv 0) rfl) (pe_fld (pv 1) rfl) (nomark _))))), ?_⟩
    obtain ⟨dx, r, os, h1, h2, h3⟩ := id dw
    rcases k with ⟨q, ls, rfl, ew, g', k⟩ | ⟨l, xs, rfl, hl, k⟩
    · obtain ⟨dy, r', os', g1, g2, g3⟩ := id ew
      refine ⟨_, rfl, _, _, _, _, true, rfl, .own D, ew.ty Y.cl O, kit_own D, _, rfl, ?_⟩
      refine iteT ⟨_, rfl, o, D, dx, _, _, rfl, h1, Y.cl, Y.nS, fldD_sets _, _, rfl, q, D, dy, _, _, rfl, g1, Y.cl, Y.nS, fldD_sets _, decide (ks = ls), ⟨r, r', _, _, fun i => decide (ks[i]? = ls[i]?), rfl, rfl, SqT.of h2, SqT.of g2, fun i x y hx hy => ?_, ?_⟩, fun H' e => k H' e⟩
      · obtain ⟨a, c, rfl, hc, ha, A0, hi⟩ := h3.nth hx
        obtain ⟨b, c2, rfl, hc2, hb, B0, _⟩ := g3.nth hy
        obtain ⟨da, fa, ea, _⟩ := A0.ins
        obtain ⟨db, fb, eb, _⟩ := B0.ins
        refine ⟨a, b, da, db, fa, fb, rfl, rfl, ea, eb, c, c2, A0, B0, g c (List.mem_of_getElem? hc), g' c2 (List.mem_of_getElem? hc2), ?_⟩
        show decide (ks[i]? = ls[i]?) = _
        rw [hc, hc2]
        exact decide_eq_decide.mpr ⟨fun z => Option.some.inj z, fun z => by rw [z]⟩
      · rw [List.length_map, List.length_map, h3.1, g3.1, all_zip]
    · exact ⟨_, rfl, _, _, _, _, false, rfl, .own D, .base (.lst hl), kLi, _, rfl, iteF k⟩
theorem ok_dmT {fI : Addr} (F : Fun K "made" "Demands.made" sDm f fd) (M : Mk K D fI) (GI : FnR P w K mg base (L2.CX P w) 8 fI (spDiBR P w C D CT)) : FnOk P w K mg base (L2.CX P w) 10 f fd ["cls", "sets"] (spDmT P w C D CT) := by
  refine F.okX scDm (fun vs H Q E h => ?_) (fun cdv A outer s H vs Q E hr h => ?_)
  · obtain ⟨l, os, cs, rfl, _⟩ := h
    rfl
  · obtain ⟨l, os, cs, rfl, hl, S, g, k⟩ := h
    have hr9 : Room 9 _ := hr
    refine ⟨_, (pss_one (ps_ret (pe_makeL (i := 0) M GI hr9 rfl (Or.inl rfl) (passes_call (takes_of rfl rfl rfl rfl) fun _ _ _ _ h => h) (pv 1)))), ?_⟩
    exact ⟨rfl, _, rfl, l, _, rfl, hl.imp SqT.of SqL.of, initB S g k⟩
theorem scLN : FnScope nLN ["_law_numbers_here"] (defScope sLN) := ⟨rfl, rfl, rfl, by decide +kernel, rfl, by decide +kernel, by decide +kernel⟩
theorem scPl : FnScope nPl ["_law_act"] (defScope sPl) := ⟨rfl, rfl, rfl, by decide +kernel, rfl, by decide +kernel, by decide +kernel⟩
theorem scRw : FnScope nRw ["_law_acts_here", "_law_s"] (defScope sRw) := ⟨rfl, rfl, rfl, by decide +kernel, rfl, by decide +kernel, by decide +kernel⟩
theorem ok_pl {f : Addr} {fd : FuncData} (F : Fun K "_law_place" "_law_place" sPl f fd) : FnOk P w K mg base CX0 1 f fd ["_law_act"] spPl := by
  refine F.ok scPl (fun vs H Q E h => ?_) (fun cdv A outer s H vs Q E hr h => ?_)
  · obtain ⟨q, a, rfl, _⟩ := h
    rfl
  · obtain ⟨q, a, rfl, hq, k⟩ := h
    refine ⟨_, (pss_one (ps_ret (pe_tup (pa_cons (pe_ix ix_tup (pv 0) pe_int (fun _ _ => rfl)) (pa_cons (pe_ifExp (pt_cmpR op_isN (pe_ix ix_tup (pv 0) pe_int (fun _ _ => rfl)) pe_non (nomark _)) pe_str (pe_ix ix_tup (pv 0) pe_int (fun _ _ => rfl))) (pa_cons (pe_ifExp (pt_cmpR op_eq (pe_ix ix_tup (pv 0) pe_int (fun _ _ => rfl)) pe_str (nomark _)) pe_str (pe_ix ix_tup (pv 0) pe_int (fun _ _ => rfl))) pa_nil)))))), ?_⟩
    obtain ⟨cb, hd, out⟩ := a
    have k : ∀ r, H r = none → Q (.ref r) (upd H r (.tup [.str cb, .str (hd.getD Str.empty), .str (if out = "returns" then Str.empty else out)])) := k
    refine ⟨_, rfl, q, _, _, _, rfl, rfl, SqT.of hq, atI_nat (j := 0) rfl, ?_⟩
    refine ⟨_, rfl, q, _, _, _, rfl, rfl, SqT.of hq, atI_nat (j := 1) rfl, rfl, _, rfl, ?_⟩
    have tl : ∀ (z : Str), z = hd.getD Str.empty → ∀ (R : VK), (∀ y, y = V.str z → R y H → True) → True := fun _ _ _ _ => trivial
    clear tl
    cases hd with
    | none =>
      refine iteT ?_
      refine ⟨_, rfl, q, _, _, _, rfl, rfl, SqT.of hq, atI_nat (j := 2) rfl, rfl, _, rfl, ite2 (fun c => ?_) (fun c => ?_)⟩
      · have c : out = "returns" := V.str.inj (of_decide_eq_true c)
        refine ⟨(by show 3 ≤ sizeLine; decide), fun r hr0 => ?_⟩
        have := k r hr0
        rw [if_pos c] at this
        exact this
      · have c : ¬ out = "returns" := fun e => c (by rw [e]; exact decide_eq_true rfl)
        refine ⟨_, rfl, q, _, _, _, rfl, rfl, SqT.of hq, atI_nat (j := 2) rfl, (by show 3 ≤ sizeLine; decide), fun r hr0 => ?_⟩
        have := k r hr0
        rw [if_neg c] at this
        exact this
    | some x =>
      refine iteF ⟨_, rfl, q, _, _, _, rfl, rfl, SqT.of hq, atI_nat (j := 1) rfl, ?_⟩
      refine ⟨_, rfl, q, _, _, _, rfl, rfl, SqT.of hq, atI_nat (j := 2) rfl, rfl, _, rfl, ite2 (fun c => ?_) (fun c => ?_)⟩
      · have c : out = "returns" := V.str.inj (of_decide_eq_true c)
        refine ⟨(by show 3 ≤ sizeLine; decide), fun r hr0 => ?_⟩
        have := k r hr0
        rw [if_pos c] at this
        exact this
      · have c : ¬ out = "returns" := fun e => c (by rw [e]; exact decide_eq_true rfl)
        refine ⟨_, rfl, q, _, _, _, rfl, rfl, SqT.of hq, atI_nat (j := 2) rfl, (by show 3 ≤ sizeLine; decide), fun r hr0 => ?_⟩
        have := k r hr0
        rw [if_neg c] at this
        exact this
theorem ok_lN (F : Fun K "_law_least" "_law_least" sLN f fd) (T : Bi mg) (T_any : mg "any" = none) : FnOk P w K mg base CX0 1 f fd ["_law_numbers_here"] spLN := by
  refine F.ok scLN (fun vs H Q E h => ?_) (fun cdv A outer s H vs Q E hr h => ?_)
  · obtain ⟨ln, ms, rfl, _⟩ := h
    rfl
  · obtain ⟨ln, ms, rfl, hn, h100, k⟩ := h
    refine ⟨_, (pss_cons (ps_set (i := 1) scLN.nd rfl (Or.inl rfl) (pe_lst pa_nil))
      (pss_cons (ps_for PassesOwn.never rfl (pi_list (pv 0)) (pg_name (i := 2) scLN.nd rfl (Or.inr rfl))
        (pss_one (ps_if (PW.pt (pw_and (pt_cmpR (op_notIn_seqK (K' := K) rfl) (pv 2) (pv 1) rfl) (pw_and1 (pt_not (pt_val (pe_callB (cr_any rfl) (by rfl) T_any (by decide +kernel) (pa_cons (pe_lc (own := [("_law_t", 3)]) (g := gName 3) (tt := tYes) rfl scLN.nd (pi_list (pv 0)) (blkOk_by (N := nLN) (sc := defScope sLN) (by decide +kernel)) (fun _ _ _ _ _ => pg_name (i := 3) scLN.nd rfl (Or.inl rfl)) (fun _ _ _ _ _ => pts_nil) (fun _ _ _ _ _ => pe_and (pe_cmpR op_ne (pv 3) (pv 2) (nomark _)) (pe_one (pe_cmpR op_eq (pe_op op_and (pv 2) (pv 3)) (pv 3) (nomark _))))) pa_nil)))))))
          (pss_one (ps_expr (pe_bm PySem.F.plainAttrs_list PySem.F.slot_list_append PySem.F.type_list_append mt_append (pv 1) (pa_cons (pv 2) pa_nil))))
          pss_nil)))
      (pss_one (ps_ret (pv 1))))), ?_⟩
    refine ⟨Nat.zero_le _, fun L hL => ?_⟩
    have s0 : Same H (upd H L (.lst [])) := (Same.refl H).put hL
    have e0 : (upd H L (.lst [])) L = some (.lst (intsV [])) := upd_same
    generalize upd H L (.lst []) = H1 at s0 e0 ⊢
    refine ⟨_, rfl, ln, rfl, ⟨_, SqL.of (s0 _ _ hn)⟩, ?_⟩
    refine for_list (K := K) (a := ln) (xs := intsV ms) (fun i σ Hc => ∃ v2 v3 : Option V, σ = [some (.ref ln), some (.ref L), v2, v3] ∧ Hc L = some (.lst (intsV ((ms.take i).foldl (stepN ms) []))) ∧ Same H Hc) ?_ ?_ ?_ ?_
    · exact ⟨_, _, rfl, e0, s0⟩
    · rintro i σ Hc _ ⟨v2, v3, rfl, _, sm⟩
      exact SqL.of (sm _ _ hn)
    · rintro i x σ Hc hx ⟨v2, v3, rfl, hLc, sm⟩
      unfold intsV at hx
      rw [List.getElem?_map] at hx
      cases hsi : ms[i]? with
      | none => rw [hsi] at hx; cases hx
      | some s0 =>
        rw [hsi] at hx
        cases hx
        have et : (ms.take (i + 1)).foldl (stepN ms) [] = stepN ms ((ms.take i).foldl (stepN ms) []) s0 := by rw [List.take_add_one, hsi, List.foldl_append]; rfl
        have fl : ((ms.take i).foldl (stepN ms) []).length ≤ 100 := by
          have h1 := ((stepN_ok ms (ms.take i) [] List.nodup_nil).1).length_le_of_subset (l₂ := ms) fun s hs => ((((stepN_ok ms (ms.take i) [] List.nodup_nil).2 s).mp hs).elim (fun h => by simp at h) fun h => List.mem_of_mem_take h.1)
          omega
        rw [et]
        generalize (ms.take i).foldl (stepN ms) [] = L0 at hLc fl ⊢
        refine ⟨_, rfl, _, rfl, L, _, rfl, .inl (SqL.of hLc), rfl, flat_ints _, _, rfl, ?_⟩
        rw [if_pos rfl, inV_ints]
        cases h1 : !decide (s0 ∈ L0) with
        | false =>
          have e2 : stepN ms L0 s0 = L0 := by unfold stepN; rw [h1]; exact if_neg Bool.false_ne_true
          rw [e2]
          exact iteF ⟨_, _, rfl, hLc, sm⟩
        | true =>
          have hnc := sm _ _ hn
          refine iteT ⟨_, rfl, ln, rfl, ⟨_, SqL.of hnc⟩, fun N hN => ?_⟩
          refine lc_list (K := K) (a := ln) (xs := intsV ms) (fun j Hd => Hd N = some (.lst (((ms.take j).map fun t => decide (t ≠ s0) && decide (s0 &&& t = t)).map V.bl)) ∧ Same Hc Hd) ?_ ?_ ?_ ?_
          · exact ⟨upd_same, (Same.refl Hc).put hN⟩
          · rintro j Hd _ ⟨_, sd⟩
            exact SqL.of (sd _ _ hnc)
          · rintro j y Hd hy ⟨hNl, sd⟩
            unfold intsV at hy
            rw [List.getElem?_map] at hy
            cases htj : ms[j]? with
            | none => rw [htj] at hy; cases hy
            | some t =>
              rw [htj] at hy
              cases hy
              have ek : ms.take (j + 1) = ms.take j ++ [t] := by rw [List.take_add_one, htj]; rfl
              have fin : ∀ b : Bool, b = (decide (t ≠ s0) && decide (s0 &&& t = t)) → ∃ acc, Hd N = some (.lst acc) ∧ acc.length < sizeLine ∧ ((upd Hd N (.lst (acc ++ [V.bl b]))) N = some (.lst (((ms.take (j + 1)).map fun t => decide (t ≠ s0) && decide (s0 &&& t = t)).map V.bl)) ∧ Same Hc (upd Hd N (.lst (acc ++ [V.bl b])))) := fun b hb => by
                refine ⟨_, hNl, ?_, ?_, sd.put hN⟩
                · rw [List.length_map, List.length_map, List.length_take]; show _ < 16777216; omega
                · rw [upd_same, ek, List.map_append, List.map_append, hb]; rfl
              refine ⟨rfl, _, rfl, _, rfl, rfl, _, rfl, ?_⟩
              have e1 : (!decide (V.int ((t : Nat) : Int) = V.int ((s0 : Nat) : Int))) = decide (t ≠ s0) := by
                rw [← decide_not]
                exact decide_eq_decide.mpr ⟨fun z q => z (by rw [q]), fun z q => z (by have := V.int.inj q; omega)⟩
              show if (!decide (V.int ((t : Nat) : Int) = V.int ((s0 : Nat) : Int))) = true then _ else _
              rw [e1]
              cases h2 : decide (t ≠ s0) with
              | false => exact iteF (fin false (by rw [h2]; rfl))
              | true =>
                refine iteT ⟨_, rfl, _, rfl, _, _, rfl, rfl, _, rfl, rfl, ?_⟩
                refine fin _ ?_
                rw [h2, Bool.true_and]
                show decide (V.int (Builtin.bitAnd ((s0 : Nat) : Int) ((t : Nat) : Int)) = V.int ((t : Nat) : Int)) = _
                rw [band_nat]
                exact decide_eq_decide.mpr ⟨fun z => by have := V.int.inj z; omega, fun z => by rw [z]⟩
          rintro Hd ⟨hNl, sd⟩
          rw [intsV_len, List.take_length] at hNl
          refine ⟨N, _, rfl, SqL.of hNl, ?_⟩
          have ea : ((ms.map fun t => decide (t ≠ s0) && decide (s0 &&& t = t)).any id) = ms.any fun t => decide (t ≠ s0) && decide (s0 &&& t = t) := by rw [List.any_map]; rfl
          rw [ea]
          refine ⟨_, rfl, ?_⟩
          have em : (!(ms.any fun t => decide (t ≠ s0) && decide (s0 &&& t = t))) = minB ms s0 := rfl
          have hLd := sd _ _ hLc
          show if (!(ms.any fun t => decide (t ≠ s0) && decide (s0 &&& t = t))) = true then _ else _
          rw [em]
          cases h3 : minB ms s0 with
          | false =>
            have e2 : stepN ms L0 s0 = L0 := by unfold stepN; rw [h1, h3]; exact if_neg Bool.false_ne_true
            rw [e2]
            exact iteF ⟨_, _, rfl, hLd, sm.trans sd⟩
          | true =>
            have e2 : stepN ms L0 s0 = L0 ++ [s0] := by unfold stepN; rw [h1, h3]; exact if_pos rfl
            rw [e2]
            refine iteT ⟨_, rfl, .inl ⟨rfl, _, SqL.of hLd⟩, _, rfl, L, _, _, rfl, rfl, hLd, (by rw [intsV_len]; show _ < 16777216; omega), ?_⟩
            exact ⟨_, _, rfl, by rw [upd_same, intsV_snoc], (sm.trans sd).put hL⟩
    · rintro σ Hc ⟨v2, v3, rfl, hLc, sm⟩
      rw [intsV_len, List.take_length] at hLc
      exact ⟨_, rfl, k L Hc hLc hL sm⟩
theorem ok_rw {fPa fPl : Addr} {fdPa fdPl : FuncData} (F : Fun K "_law_rows" "_law_rows" sRw f fd) (tSo : mg "sorted" = none) (PA : Df K mg "_law_part" sPa fPa fdPa ["_law_acts_here", "_law_s"]) (GPa : FnOk P w K mg base CX0 1 fPa fdPa ["_law_acts_here", "_law_s"] spPaV)
    (PL : Df K mg "_law_place" sPl fPl fdPl ["_law_act"]) (GPl : FnOk P w K mg base CX0 1 fPl fdPl ["_law_act"] spPl) : FnOk P w K mg base CX0 4 f fd ["_law_acts_here", "_law_s"] spRw := by
  refine F.ok scRw (fun vs H Q E h => ?_) (fun cdv A outer s H vs Q E hr h => ?_)
  · obtain ⟨l, ts, U, m, rfl, _⟩ := h
    rfl
  · obtain ⟨l, ts, U, m, rfl, HU, u, k⟩ := h
    have hr3 : Room 3 _ := hr
    have hr1 : Room 1 _ := hr.mono (by decide)
    refine ⟨_, (pss_one (ps_ret (pe_callBK (cr_sortedF GPl hr3 PL.b) (by rfl) tSo (by decide +kernel) (pa_cons (pe_call GPa hr1 (by rfl) PA.m PA.F.kp PA.b .nil pass0 (pa_cons (pv 0) (pa_cons (pv 1) pa_nil))) pa_nil) (pk_cons (pe_glob (v := .ref fPl) rfl PL.m rfl) pk_nil)))), ?_⟩
    refine ⟨_, rfl, _, rfl, l, ts, U, m, rfl, HU, u, fun r qs H1 e1 A1 s1 => ?_⟩
    have wb := bitsF_w u.w m
    have ndb : (bitsF U m).Nodup := u.nd.filter _
    have ps := place_sorted (as := bitsF U m) (fun a ha => plOk_w (wb a ha)) ndb
    have k : ∀ (r : Addr) (qs : List Addr) (H' : Hp), H' r = some (.lst (qs.map V.ref)) → ActsAt H' qs (lawSort (bitsF U m)) → H r = none → Same H H' → Q (.ref r) H' := k
    generalize bitsF U m = bs at A1 wb ps ndb k
    refine ⟨r, qs.map V.ref, bs.map placeD, rfl, rfl, SqL.of e1, by rw [List.length_map, List.length_map, A1.1], fun d hd d' hd' => ?_, .inl fun d hd => ?_, fun d hd => ?_, fun i v d hv hd H5 s5 => ?_, fun pl H5 s5 npl hpl => ?_⟩
    · obtain ⟨a, _, rfl⟩ := List.mem_map.mp hd
      obtain ⟨b, _, rfl⟩ := List.mem_map.mp hd'
      rfl
    · obtain ⟨a, _, rfl⟩ := List.mem_map.mp hd
      exact ⟨_, _, rfl⟩
    · obtain ⟨a, _, rfl⟩ := List.mem_map.mp hd
      have e : (placeD a).depth = 1 := rfl
      omega
    · rw [List.getElem?_map] at hv hd
      cases hq : qs[i]? with
      | none => rw [hq] at hv; cases hv
      | some q =>
        cases hb : bs[i]? with
        | none => rw [hb] at hd; cases hd
        | some a =>
          rw [hq] at hv
          rw [hb] at hd
          cases hv
          cases hd
          refine ⟨q, a, rfl, s5 _ _ (A1.2 i q a hq hb), fun r hr0 => ⟨fun b o e => by rw [upd_ne (ne_of_none e hr0)]; exact e, ⟨r, rfl⟩, fun H6 t6 => place_dp (t6 _ _ upd_same)⟩⟩
    · obtain ⟨qs', eq', l', R'⟩ := sorted_gen (fun q a => H5 q = some (.tup (actVs a))) placeD A1.1 fun j q a h1 h2 => s5 _ _ (A1.2 j q a h1 h2)
      rw [eq'] at hpl
      rw [ps] at l' R'
      exact k pl qs' H5 hpl ⟨l', R'⟩ (s1.free npl) (s1.trans fun b o e => s5 b o e)
end
end K2
end
section
set_option Elab.async false
set_option maxRecDepth 100000
set_option linter.all false
/-! the law: the rows that are due -/
namespace K2
open PySem PySem.W PySem.Calls L2 LfX PySem.Spec PyProof.Rows
abbrev sDz : Stmt := top 36
abbrev nDz : List Str := ["_law_acts_here", "_law_numbers_here", "_law_some", "_law_placed", "_law_s", "_law_k", "_law_act", "_law_one"]
/-- rows of sets stand at addresses -/
def RwsAt (H : Hp) (rs : List Addr) (ks : List ASet) : Prop := rs.length = ks.length ∧ ∀ (j : Nat) (q : Addr) (c : ASet), rs[j]? = some q → ks[j]? = some c → ∃ qs : List Addr, H q = some (.tup (qs.map V.ref)) ∧ ActsAt H qs c
theorem RwsAt.mono {H H' : Hp} {rs : List Addr} {ks : List ASet} (h : RwsAt H rs ks) (k : ∀ b xs, H b = some (.tup xs) → H' b = some (.tup xs)) : RwsAt H' rs ks := ⟨h.1, fun j q c a b => let ⟨qs, e1, e2⟩ := h.2 j q c a b; ⟨qs, k _ _ e1, e2.mono k⟩⟩
theorem RwsAt.snoc {H : Hp} {rs : List Addr} {ks : List ASet} {q : Addr} {c : ASet} {qs : List Addr} (h : RwsAt H rs ks) (e1 : H q = some (.tup (qs.map V.ref))) (e2 : ActsAt H qs c) : RwsAt H (rs ++ [q]) (ks ++ [c]) := by
  refine ⟨by simp [h.1], fun j q' c' a b => ?_⟩
  by_cases hj : j < rs.length
  · rw [List.getElem?_append_left hj] at a
    rw [List.getElem?_append_left (by rw [← h.1]; exact hj)] at b
    exact h.2 j q' c' a b
  · rw [List.getElem?_append_right (by omega)] at a
    rw [List.getElem?_append_right (by have := h.1; omega), ← h.1] at b
    have j0 : j - rs.length = 0 := by
      have := (List.getElem?_eq_some_iff.mp a).1
      rw [List.length_singleton] at this
      omega
    rw [j0] at a b
    cases a
    cases b
    exact ⟨qs, e1, e2⟩
theorem RwsAt.nil {H : Hp} : RwsAt H [] [] := ⟨rfl, fun j q c h => by simp at h⟩
/-- lists of acts stand at addresses -/
def LstsAt (H : Hp) (rs : List Addr) (ks : List ASet) : Prop := rs.length = ks.length ∧ ∀ (j : Nat) (q : Addr) (c : ASet), rs[j]? = some q → ks[j]? = some c → ∃ qs : List Addr, H q = some (.lst (qs.map V.ref)) ∧ ActsAt H qs c
theorem LstsAt.same {H H' : Hp} {rs : List Addr} {ks : List ASet} (h : LstsAt H rs ks) (s : Same H H') : LstsAt H' rs ks := ⟨h.1, fun j q c a b => let ⟨qs, e1, e2⟩ := h.2 j q c a b; ⟨qs, s _ _ e1, e2.mono fun b xs e => s _ _ e⟩⟩
theorem LstsAt.snoc {H : Hp} {rs : List Addr} {ks : List ASet} {q : Addr} {c : ASet} {qs : List Addr} (h : LstsAt H rs ks) (e1 : H q = some (.lst (qs.map V.ref))) (e2 : ActsAt H qs c) : LstsAt H (rs ++ [q]) (ks ++ [c]) := by
  refine ⟨by simp [h.1], fun j q' c' a b => ?_⟩
  by_cases hj : j < rs.length
  · rw [List.getElem?_append_left hj] at a
    rw [List.getElem?_append_left (by rw [← h.1]; exact hj)] at b
    exact h.2 j q' c' a b
  · rw [List.getElem?_append_right (by omega)] at a
    rw [List.getElem?_append_right (by have := h.1; omega), ← h.1] at b
    have j0 : j - rs.length = 0 := by
      have := (List.getElem?_eq_some_iff.mp a).1
      rw [List.length_singleton] at this
      omega
    rw [j0] at a b
    cases a
    cases b
    exact ⟨qs, e1, e2⟩
theorem LstsAt.wr {H : Hp} {rs : List Addr} {ks : List ASet} {S : Addr} {xs : List V} {o : HO} (h : LstsAt H rs ks) (ne : ∀ q ∈ rs, q ≠ S) (hS : H S = some (.lst xs)) : LstsAt (upd H S o) rs ks := ⟨h.1, fun j q c a b => by
  obtain ⟨qs, e1, e2⟩ := h.2 j q c a b
  exact ⟨qs, (upd_ne (ne q (List.mem_of_getElem? a))).trans e1, e2.mono fun b xs e => (upd_ne (ne_of e hS (by intro z; cases z))).trans e⟩⟩
theorem LstsAt.nil {H : Hp} : LstsAt H [] [] := ⟨rfl, fun j q c h => by simp at h⟩
/-- places of acts stand at addresses -/
def PlsAt (H : Hp) (qs : List Addr) (c : ASet) : Prop := qs.length = c.length ∧ ∀ (j : Nat) (q : Addr) (a : LfX.Act), qs[j]? = some q → c[j]? = some a → H q = some (.tup (plVs a))
theorem PlsAt.mono {H H' : Hp} {qs : List Addr} {c : ASet} (h : PlsAt H qs c) (k : ∀ b xs, H b = some (.tup xs) → H' b = some (.tup xs)) : PlsAt H' qs c := ⟨h.1, fun j q a x y => k _ _ (h.2 j q a x y)⟩
theorem PlsAt.snoc {H : Hp} {qs : List Addr} {c : ASet} {q : Addr} {a : LfX.Act} (h : PlsAt H qs c) (e : H q = some (.tup (plVs a))) : PlsAt H (qs ++ [q]) (c ++ [a]) := by
  refine ⟨by simp [h.1], fun j q' a' x y => ?_⟩
  by_cases hj : j < qs.length
  · rw [List.getElem?_append_left hj] at x
    rw [List.getElem?_append_left (by rw [← h.1]; exact hj)] at y
    exact h.2 j q' a' x y
  · rw [List.getElem?_append_right (by omega)] at x
    rw [List.getElem?_append_right (by have := h.1; omega), ← h.1] at y
    have j0 : j - qs.length = 0 := by
      have := (List.getElem?_eq_some_iff.mp x).1
      rw [List.length_singleton] at this
      omega
    rw [j0] at x y
    cases x
    cases y
    exact e
theorem pls_dp {K : PySem.W.Frag} {H : Hp} : ∀ {qs : List Addr} {c : ASet}, PlsAt H qs c → DpAll K H (qs.map V.ref) (c.map placeD)
  | [], [], _ => .nil
  | q :: qs, a :: c, h => .cons (place_dp (h.2 0 q a rfl rfl)) (pls_dp ⟨by have := h.1; simpa using this, fun j q a x y => h.2 (j + 1) q a x y⟩)
  | [], _ :: _, h => by have := h.1; simp at this
  | _ :: _, [], h => by have := h.1; simp at this
/-- what is sorted stands at q -/
def ItAt (Z : Addr) (H : Hp) (q : Addr) (p : ASet × Nat) : Prop := ∃ (lq : Addr) (qs : List Addr), lq ≠ Z ∧ H q = some (.tup [.int (p.1.length : Nat), .ref lq, .int (p.2 : Nat)]) ∧ H lq = some (.lst (qs.map V.ref)) ∧ PlsAt H qs p.1
theorem ItAt.same {Z : Addr} {H H' : Hp} {q : Addr} {p : ASet × Nat} (h : ItAt Z H q p) (s : Same H H') : ItAt Z H' q p := let ⟨lq, qs, n, a, b, c⟩ := h; ⟨lq, qs, n, s _ _ a, s _ _ b, c.mono fun b xs e => s _ _ e⟩
theorem ItAt.wr {Z : Addr} {H : Hp} {q : Addr} {p : ASet × Nat} {xs : List V} {o : HO} (h : ItAt Z H q p) (hZ : H Z = some (.lst xs)) : ItAt Z (upd H Z o) q p := by
  obtain ⟨lq, qs, n, a, b, c⟩ := h
  have nt : ∀ b ys, H b = some (.tup ys) → (upd H Z o) b = some (.tup ys) := fun b ys e => (upd_ne (ne_of e hZ (by intro z; cases z))).trans e
  exact ⟨lq, qs, n, nt _ _ a, (upd_ne n).trans b, c.mono nt⟩
theorem ItAt.dp {K : PySem.W.Frag} {Z : Addr} {H : Hp} {q : Addr} {p : ASet × Nat} (h : ItAt Z H q p) : Dp K H (.ref q) (lawKey p) := by
  obtain ⟨lq, qs, n, a, b, c⟩ := h
  exact .tup (SqT.of a) (.cons (.int _) (.cons (.lst (SqL.of b) (pls_dp c)) (.cons (.int _) .nil)))
def ItsAt (Z : Addr) (H : Hp) (tq : List Addr) (ps : List (ASet × Nat)) : Prop := tq.length = ps.length ∧ ∀ (j : Nat) (q : Addr) (p : ASet × Nat), tq[j]? = some q → ps[j]? = some p → ItAt Z H q p
theorem ItsAt.same {Z : Addr} {H H' : Hp} {tq : List Addr} {ps : List (ASet × Nat)} (h : ItsAt Z H tq ps) (s : Same H H') : ItsAt Z H' tq ps := ⟨h.1, fun j q p a b => (h.2 j q p a b).same s⟩
theorem ItsAt.wr {Z : Addr} {H : Hp} {tq : List Addr} {ps : List (ASet × Nat)} {xs : List V} {o : HO} (h : ItsAt Z H tq ps) (hZ : H Z = some (.lst xs)) : ItsAt Z (upd H Z o) tq ps := ⟨h.1, fun j q p a b => (h.2 j q p a b).wr hZ⟩
theorem ItsAt.nil {Z : Addr} {H : Hp} : ItsAt Z H [] [] := ⟨rfl, fun j q p h => by simp at h⟩
theorem ItsAt.snoc {Z : Addr} {H : Hp} {tq : List Addr} {ps : List (ASet × Nat)} {q : Addr} {p : ASet × Nat} (h : ItsAt Z H tq ps) (e : ItAt Z H q p) : ItsAt Z H (tq ++ [q]) (ps ++ [p]) := by
  refine ⟨by simp [h.1], fun j q' p' x y => ?_⟩
  by_cases hj : j < tq.length
  · rw [List.getElem?_append_left hj] at x
    rw [List.getElem?_append_left (by rw [← h.1]; exact hj)] at y
    exact h.2 j q' p' x y
  · rw [List.getElem?_append_right (by omega)] at x
    rw [List.getElem?_append_right (by have := h.1; omega), ← h.1] at y
    have j0 : j - tq.length = 0 := by
      have := (List.getElem?_eq_some_iff.mp x).1
      rw [List.length_singleton] at this
      omega
    rw [j0] at x y
    cases x
    cases y
    exact e
theorem places_alike : ∀ c d : ASet, alikeAll (c.map placeD) (d.map placeD) = true
  | [], _ => by simp [alikeAll]
  | _ :: _, [] => by simp [alikeAll]
  | a :: c, b :: d => by
    show (alike (placeD a) (placeD b) && alikeAll (c.map placeD) (d.map placeD)) = true
    rw [places_alike c d]
    rfl
theorem law_alike (ps : List (ASet × Nat)) : AllAlike (ps.map lawKey) := by
  intro d hd d' hd'
  obtain ⟨a, _, rfl⟩ := List.mem_map.mp hd
  obtain ⟨b, _, rfl⟩ := List.mem_map.mp hd'
  simp only [lawKey, alike, alikeAll, places_alike, Bool.and_true]
theorem law_sortable (ps : List (ASet × Nat)) : Sortable (ps.map lawKey) := .inl fun d hd => by
  obtain ⟨a, _, rfl⟩ := List.mem_map.mp hd
  exact ⟨_, _, rfl⟩
theorem places_depth : ∀ c : ASet, PyData.depthAll (c.map placeD) ≤ 1
  | [] => Nat.zero_le _
  | a :: c => Nat.max_le.mpr ⟨Nat.le_refl 1, places_depth c⟩
theorem law_depth (ps : List (ASet × Nat)) : ∀ d ∈ ps.map lawKey, d.depth ≤ 8 := fun d hd => by
  obtain ⟨a, _, rfl⟩ := List.mem_map.mp hd
  have := places_depth a.1
  show max 0 (max (PyData.depthAll (a.1.map placeD) + 1) (max 0 0)) + 1 ≤ 8
  omega
theorem itemsL_mem {U : ASet} {ms : List Nat} {p : ASet × Nat} (h : p ∈ itemsL U ms) : (setsL U ms)[p.2]? = some p.1 := by
  obtain ⟨k, hk, rfl⟩ := List.mem_map.mp h
  have hk := List.mem_range.mp hk
  show (setsL U ms)[k]? = some ((setsL U ms).getD k [])
  rw [List.getD_eq_getElem?_getD, List.getElem?_eq_getElem hk]
  rfl
def spDz : Sp := fun vs H Q _ => ∃ (l ln : Addr) (ts : List Addr) (U : ASet) (ms : List Nat), vs = [.ref l, .ref ln] ∧ UAt H l ts U ∧ OkV U ∧ H ln = some (.lst (intsV ms)) ∧ ms.length ≤ 100 ∧ Nums U ms ∧
  ∀ (r : Addr) (rs : List Addr) (H' : Hp), H' r = some (.lst (rs.map V.ref)) → RwsAt H' rs (leastC (numC U ms)) → H r = none → Same H H' → Q (.ref r) H'
abbrev scopeDz : Scope := { kind := .function, names := [(".0", .local), ("_law_k", .local), ("len", .globalImplicit), ("_law_some", .cell)], isGenerator := false, isCoroutine := false }
section
variable {P : Program} {w : World} {K : PySem.W.Frag} {mg : Str → Option Value} {base : Heap} {f : Addr} {fd : FuncData}
theorem scDz : FnScope nDz ["_law_acts_here", "_law_numbers_here"] (defScope sDz) := ⟨rfl, rfl, rfl, by decide +kernel, rfl, by decide +kernel, by decide +kernel⟩
set_option maxHeartbeats 2000000 in
theorem ok_dz {fLN fRw fPl : Addr} {fdLN fdRw fdPl : FuncData} (F : Fun K "_law_due" "_law_due" sDz f fd) (T : Bi mg) (tSo : mg "sorted" = none) (LN : Df K mg "_law_least" sLN fLN fdLN ["_law_numbers_here"]) (GLN : FnOk P w K mg base CX0 1 fLN fdLN ["_law_numbers_here"] spLN)
    (RW : Df K mg "_law_rows" sRw fRw fdRw ["_law_acts_here", "_law_s"]) (GRw : FnOk P w K mg base CX0 4 fRw fdRw ["_law_acts_here", "_law_s"] spRw)
    (PL : Df K mg "_law_place" sPl fPl fdPl ["_law_act"]) (GPl : FnOk P w K mg base CX0 1 fPl fdPl ["_law_act"] spPl) : FnOk P w K mg base CX0 5 f fd ["_law_acts_here", "_law_numbers_here"] spDz := by
  refine F.ok scDz (fun vs H Q E h => ?_) (fun cdv A outer s H vs Q E hr h => ?_)
  · obtain ⟨l, ln, ts, U, ms, rfl, _⟩ := h
    rfl
  · obtain ⟨l, ln, ts, U, ms, rfl, HU, u, hn, h100, nums, k⟩ := h
    have hr4 : Room 4 _ := hr
    have hr1 : Room 1 _ := hr.mono (by decide)
    refine ⟨_, (pss_cons (ps_set (i := 2) scDz.nd rfl (Or.inr rfl) (pe_lc (own := [("_law_s", 4)]) (g := gName 4) (tt := tYes) rfl scDz.nd (pi_list (pe_call GLN hr1 (by rfl) LN.m LN.F.kp LN.b .nil pass0 (pa_cons (pv 1) pa_nil))) (blkOk_by (N := nDz) (sc := defScope sDz) (by decide +kernel)) (fun _ _ _ _ _ => pg_name (i := 4) scDz.nd rfl (Or.inl rfl)) (fun _ _ _ _ _ => pts_nil) (fun _ _ _ _ _ => pe_call GRw hr4 (by rfl) RW.m RW.F.kp RW.b .nil pass0 (pa_cons (pv 0) (pa_cons (pv 4) pa_nil)))))
      (pss_cons (ps_set (i := 3) scDz.nd rfl (Or.inl rfl) (pe_callB (cr_sortedD hr.units) (by rfl) tSo (by decide +kernel) (pa_cons (pe_lc (own := [("_law_k", 5)]) (g := gName 5) (tt := tYes) (te := tTup (tCons (tCB (fun xs H Q => ∃ p ys, xs = [V.ref p] ∧ (SqL K H p ys ∨ SqT K H p ys) ∧ Q (.int (ys.length : Nat)) H) (tCons (tOp (rIxL K) (tVar 2) (tVar 5)) tNil)) (tCons (tLc (iList K (tOp (rIxL K) (tVar 2) (tVar 5))) (gName 6) tYes (tCall spPl [] E0 (tCons (tVar 6) tNil)) [6]) (tCons (tVar 5) tNil)))) rfl scDz.nd (pi_range1 (by rfl) T.range (pa_cons (pe_callB call_len_seq (by rfl) T.len PySem.boot_len (pa_cons (pv 2) pa_nil)) pa_nil)) (blkOk_by (N := nDz) (sc := defScope sDz) (by decide +kernel)) (fun _ _ _ _ _ => pg_name (i := 5) scDz.nd rfl (Or.inl rfl)) (fun _ _ _ _ _ => pts_nil) (fun s1 H1 C1 cl1 fp1 => ?el)) pa_nil)))
      (pss_one (ps_ret (pe_lc (own := [("_law_one", 7)]) (g := gName 7) (tt := tYes) (te := tCB (fun xs H Q => ∃ p ys, xs = [V.ref p] ∧ ((SqL K H p ys ∧ ∀ l, H l = none → Q (.ref l) (upd H l (.tup ys))) ∨ (SqT K H p ys ∧ Q (.ref p) H))) (tCons (tOp (rIxL K) (tVar 2) (tOp (rIxT K) (tVar 7) (tC (.int 2)))) tNil)) rfl scDz.nd (pi_list (pv 3)) (blkOk_by (N := nDz) (sc := defScope sDz) (by decide +kernel)) (fun _ _ _ _ _ => pg_name (i := 7) scDz.nd rfl (Or.inl rfl)) (fun _ _ _ _ _ => pts_nil) (fun s1 H1 C1 cl1 fp1 => ?el2)))))), ?_⟩
    case el => exact pe_tup (pa_cons (pe_callB call_len_seq (by rfl) T.len PySem.boot_len (pa_cons (pe_ix ix_list (pv 2) (pv 5) (fun _ _ => rfl)) pa_nil)) (pa_cons (pe_lc (own := [("_law_act", 6)]) (g := gName 6) (tt := tYes) rfl scDz.nd (pi_list (pe_ix ix_list (pv 2) (pv 5) (fun _ _ => rfl))) (blkOk_by (N := nDz) (sc := scopeDz) (by decide +kernel)) (fun _ _ _ _ _ => pg_name (i := 6) scDz.nd rfl (Or.inl rfl)) (fun _ _ _ _ _ => pts_nil) (fun _ _ _ _ _ => pe_call GPl hr1 (by rfl) PL.m PL.F.kp PL.b .nil pass0 (pa_cons (pv 6) pa_nil))) (pa_cons (pv 5) pa_nil)))
    case el2 => exact pe_callTy call_tuple_of (by rfl) T.tuple (by decide +kernel) (pa_cons (pe_ix ix_list (pv 2) (pe_ix ix_tup (pv 7) pe_int (fun _ _ => rfl)) (fun _ _ => rfl)) pa_nil)
    refine ⟨_, rfl, ln, ms, rfl, hn, h100, fun r1 H1 e1 _ s1 => ?_⟩
    have lN := leastN_len ms
    refine ⟨r1, rfl, ⟨_, SqL.of e1⟩, fun S hS => ?_⟩
    refine lc_list (K := K) (a := r1) (xs := intsV (leastN ms)) (fun i Hc => ∃ rs : List Addr, Hc S = some (.lst (rs.map V.ref)) ∧ LstsAt Hc rs (((leastN ms).take i).map (setN U)) ∧ (∀ q ∈ rs, q ≠ S) ∧ Same H1 Hc) ?_ ?_ ?_ ?_
    · exact ⟨[], upd_same, LstsAt.nil, fun q h => by simp at h, (Same.refl H1).put hS⟩
    · rintro i Hc _ ⟨_, _, _, _, sm⟩
      exact SqL.of (sm _ _ e1)
    · rintro i y Hc hy ⟨rs, hSc, LA, nS, sm⟩
      unfold intsV at hy
      rw [List.getElem?_map] at hy
      cases hsi : (leastN ms)[i]? with
      | none => rw [hsi] at hy; cases hy
      | some s0 =>
        rw [hsi] at hy
        cases hy
        have et : (leastN ms).take (i + 1) = (leastN ms).take i ++ [s0] := by rw [List.take_add_one, hsi]; rfl
        refine ⟨rfl, _, rfl, _, rfl, l, ts, U, s0, rfl, (HU.same s1).same sm, u, fun r qs H' er Ar nr s' => ?_⟩
        have hS' := s' _ _ hSc
        have nrS : r ≠ S := fun e => by rw [e, hSc] at nr; cases nr
        have nS2 : ∀ q ∈ rs ++ [r], q ≠ S := fun q hq => (List.mem_append.mp hq).elim (nS q) fun h => by rw [List.mem_singleton.mp h]; exact nrS
        refine ⟨_, hS', ?_, rs ++ [r], by rw [upd_same, List.map_append]; rfl, ?_, nS2, (sm.trans s').put hS⟩
        · rw [List.length_map, LA.1, List.length_map, List.length_take]; show _ < 16777216; omega
        · rw [et, List.map_append]
          exact ((LA.same s').snoc er Ar).wr nS2 hS'
    rintro H2 ⟨rs, hS2, LA2, _, s2⟩
    rw [intsV_len, List.take_length] at LA2
    have LA2 : LstsAt H2 rs (setsL U ms) := LA2
    have ls : (setsL U ms).length ≤ 100 := by unfold setsL; rw [List.length_map]; omega
    have rl : (rs.map V.ref).length = (setsL U ms).length := by rw [List.length_map, LA2.1]
    have s02 := s1.trans s2
    have wS : ∀ (k : Nat) (c : ASet), (setsL U ms)[k]? = some c → c.length ≤ 16 := fun k c hc => by
      obtain ⟨s0, _, rfl⟩ := List.mem_map.mp (List.mem_of_getElem? hc)
      have h1 := lawSort_len (bitsF U s0)
      have h2 := bitsF_len U s0
      have h3 := u.l
      show (lawSort (bitsF U s0)).length ≤ 16
      omega
    refine ⟨_, rfl, S, _, rfl, .inl (SqL.of hS2), _, rfl, by omega, by omega, fun Z hZ => ?_⟩
    rw [rl]
    refine lc_range (lo := 0) (n := (setsL U ms).length) (fun i Hc => ∃ tq : List Addr, Hc Z = some (.lst (tq.map V.ref)) ∧ ItsAt Z Hc tq ((List.range i).map fun k => ((setsL U ms).getD k [], k)) ∧ Same H2 Hc) ?_ ?_ ?_
    · exact ⟨[], upd_same, ItsAt.nil, (Same.refl H2).put hZ⟩
    · rintro i Hc hi ⟨tq, hZc, IA, sm⟩
      rw [Int.zero_add]
      have hci : (setsL U ms)[i]? = some (setsL U ms)[i] := List.getElem?_eq_getElem hi
      have hgd : (setsL U ms).getD i [] = (setsL U ms)[i] := by rw [List.getD_eq_getElem?_getD, hci]; rfl
      have et : (List.range (i + 1)).map (fun k => ((setsL U ms).getD k [], k)) = (List.range i).map (fun k => ((setsL U ms).getD k [], k)) ++ [((setsL U ms)[i], i)] := by rw [List.range_succ, List.map_append, ← hgd]; rfl
      rw [et]
      have hri : rs[i]? = some (rs[i]'(by rw [LA2.1]; exact hi)) := List.getElem?_eq_getElem _
      generalize (setsL U ms)[i] = ct at hci
      generalize rs[i]'(by rw [LA2.1]; exact hi) = q at hri
      obtain ⟨qs, hq, Aq⟩ := LA2.2 i q ct hri hci
      have hx : (rs.map V.ref)[i]? = some (V.ref q) := by rw [List.getElem?_map, hri]; rfl
      have hSc := sm _ _ hS2
      have hqc := sm _ _ hq
      have Aqc : ActsAt Hc qs ct := Aq.mono fun b xs e => sm _ _ e
      have cl := wS i ct hci
      refine ⟨rfl, _, rfl, _, rfl, S, _, _, _, rfl, rfl, SqL.of hSc, atI_nat (j := i) hx, q, _, rfl, .inl (SqL.of hqc), ?_⟩
      refine ⟨_, rfl, _, rfl, S, _, _, _, rfl, rfl, SqL.of hSc, atI_nat (j := i) hx, q, rfl, ⟨_, SqL.of hqc⟩, fun N hN => ?_⟩
      have nNZ : N ≠ Z := fun e => by rw [e, hZc] at hN; cases hN
      refine lc_list (K := K) (a := q) (xs := qs.map V.ref) (fun j Hd => ∃ pq : List Addr, Hd N = some (.lst (pq.map V.ref)) ∧ PlsAt Hd pq (ct.take j) ∧ Same Hc Hd) ?_ ?_ ?_ ?_
      · exact ⟨[], upd_same, ⟨rfl, fun j q a h => by simp at h⟩, (Same.refl Hc).put hN⟩
      · rintro j Hd _ ⟨_, _, _, sd⟩
        exact SqL.of (sd _ _ hqc)
      · rintro j y Hd hy ⟨pq, hNd, PA, sd⟩
        obtain ⟨x, b, rfl, hb, hxq, hxb, hj⟩ := acts_nth Aqc hy
        have ek : ct.take (j + 1) = ct.take j ++ [b] := by rw [List.take_add_one, hb]; rfl
        refine ⟨rfl, _, rfl, x, b, rfl, sd _ _ hxb, fun r hr0 => ?_⟩
        have sr : Same Hd (upd Hd r (.tup (plVs b))) := (Same.refl Hd).put hr0
        have er : (upd Hd r (.tup (plVs b))) r = some (.tup (plVs b)) := upd_same
        generalize upd Hd r (.tup (plVs b)) = He at sr er ⊢
        have hNe := sr _ _ hNd
        refine ⟨_, hNe, ?_, pq ++ [r], by rw [upd_same, List.map_append]; rfl, ?_, (sd.trans sr).put hN⟩
        · rw [List.length_map, PA.1, List.length_take]; show _ < 16777216; omega
        · rw [ek]
          exact ((PA.mono fun b xs e => sr _ _ e).snoc er).mono fun b xs e => (upd_ne (ne_of e hNe (by intro z; cases z))).trans e
      rintro Hd ⟨pq, hNd, PA, sd⟩
      rw [List.length_map, Aqc.1, List.take_length] at PA
      refine ⟨_, rfl, (by show 3 ≤ sizeLine; decide), fun t ht => ?_⟩
      rw [show (((qs.map V.ref).length : Nat) : Int) = ((ct.length : Nat) : Int) from by rw [List.length_map, Aqc.1]]
      have st : Same Hd (upd Hd t (.tup [V.int (ct.length : Nat), .ref N, .int (i : Nat)])) := (Same.refl Hd).put ht
      have et2 : (upd Hd t (.tup [V.int (ct.length : Nat), .ref N, .int (i : Nat)])) t = some (.tup [V.int (ct.length : Nat), .ref N, .int (i : Nat)]) := upd_same
      generalize upd Hd t (.tup [V.int (ct.length : Nat), .ref N, .int (i : Nat)]) = He at st et2 ⊢
      have hZe := st _ _ (sd _ _ hZc)
      refine ⟨_, hZe, ?_, tq ++ [t], by rw [upd_same, List.map_append]; rfl, ?_, ((sm.trans sd).trans st).put hZ⟩
      · rw [List.length_map, IA.1, List.length_map, List.length_range]; show _ < 16777216; omega
      · exact ((IA.same (sd.trans st)).snoc (p := (ct, i)) ⟨N, pq, nNZ, et2, st _ _ hNd, PA.mono fun b xs e => st _ _ e⟩).wr hZe
    rintro H3 ⟨tq, hZ3, IA3, s3⟩
    have IA3 : ItsAt Z H3 tq (itemsL U ms) := IA3
    have hil : (itemsL U ms).length = (setsL U ms).length := by unfold itemsL; rw [List.length_map, List.length_range]
    have isrt := items_sorted u nums
    refine ⟨Z, tq.map V.ref, (itemsL U ms).map lawKey, rfl, SqL.of hZ3, by rw [List.length_map, List.length_map, IA3.1], law_alike _, law_sortable _, law_depth _, fun i v d hv hd => ?_, fun p hp => ?_⟩
    · rw [List.getElem?_map] at hv hd
      cases hq : tq[i]? with
      | none => rw [hq] at hv; cases hv
      | some q =>
        cases hb : (itemsL U ms)[i]? with
        | none => rw [hb] at hd; cases hd
        | some a =>
          rw [hq] at hv
          rw [hb] at hd
          cases hv
          cases hd
          exact (IA3.2 i q a hq hb).dp
    obtain ⟨tq', eq', l', R'⟩ := sorted_gen (ItAt Z H3) lawKey IA3.1 IA3.2
    rw [eq']
    have mem : ∀ p ∈ (itemsL U ms).mergeSort (dataLe false lawKey), p ∈ itemsL U ms := fun p hp => (List.mergeSort_perm _ _).mem_iff.mp hp
    have sl : ((itemsL U ms).mergeSort (dataLe false lawKey)).length ≤ 100 := by rw [(List.mergeSort_perm _ _).length_eq, hil]; exact ls
    generalize (itemsL U ms).mergeSort (dataLe false lawKey) = srt at isrt l' R' mem sl
    have s4 : Same H3 (upd H3 p (.lst (tq'.map V.ref))) := (Same.refl H3).put hp
    have e4 : (upd H3 p (.lst (tq'.map V.ref))) p = some (.lst (tq'.map V.ref)) := upd_same
    generalize upd H3 p (.lst (tq'.map V.ref)) = H4 at s4 e4 ⊢
    have s24 := s3.trans s4
    have s04 := s02.trans s24
    refine ⟨_, rfl, p, rfl, ⟨_, SqL.of e4⟩, fun N hN => ?_⟩
    refine lc_list (K := K) (a := p) (xs := tq'.map V.ref) (fun i Hc => ∃ ro : List Addr, Hc N = some (.lst (ro.map V.ref)) ∧ RwsAt Hc ro ((srt.take i).map (·.1)) ∧ Same H4 Hc) ?_ ?_ ?_ ?_
    · exact ⟨[], upd_same, RwsAt.nil, (Same.refl H4).put hN⟩
    · rintro i Hc _ ⟨_, _, _, sm⟩
      exact SqL.of (sm _ _ e4)
    · rintro i y Hc hy ⟨ro, hNc, RA, sm⟩
      rw [List.getElem?_map] at hy
      cases hqi : tq'[i]? with
      | none => rw [hqi] at hy; cases hy
      | some q =>
        rw [hqi] at hy
        cases hy
        have il : i < srt.length := by rw [← l']; exact (List.getElem?_eq_some_iff.mp hqi).1
        have hpi : srt[i]? = some srt[i] := List.getElem?_eq_getElem il
        generalize srt[i] = it at hpi
        obtain ⟨lq, pq, _, hq0, _, _⟩ := R' i q it hqi hpi
        have hq := sm _ _ (s4 _ _ hq0)
        have hm := itemsL_mem (mem it (List.mem_of_getElem? hpi))
        have ek : srt.take (i + 1) = srt.take i ++ [it] := by rw [List.take_add_one, hpi]; rfl
        have hrl : it.2 < rs.length := by rw [LA2.1]; exact (List.getElem?_eq_some_iff.mp hm).1
        have hri : rs[it.2]? = some rs[it.2] := List.getElem?_eq_getElem hrl
        generalize rs[it.2] = lk at hri
        obtain ⟨qs, hlk, Alk⟩ := LA2.2 it.2 lk it.1 hri hm
        have hx : (rs.map V.ref)[it.2]? = some (V.ref lk) := by rw [List.getElem?_map, hri]; rfl
        have hlkc := sm _ _ (s24 _ _ hlk)
        have hSc := sm _ _ (s24 _ _ hS2)
        refine ⟨rfl, _, rfl, _, rfl, q, _, _, _, rfl, rfl, SqT.of hq, rfl, S, _, _, _, rfl, rfl, SqL.of hSc, atI_nat (j := it.2) hx, lk, _, rfl, .inl ⟨SqL.of hlkc, fun r hr0 => ?_⟩⟩
        have sr : Same Hc (upd Hc r (.tup (qs.map V.ref))) := (Same.refl Hc).put hr0
        have er : (upd Hc r (.tup (qs.map V.ref))) r = some (.tup (qs.map V.ref)) := upd_same
        generalize upd Hc r (.tup (qs.map V.ref)) = He at sr er ⊢
        have hNe := sr _ _ hNc
        refine ⟨_, hNe, ?_, ro ++ [r], by rw [upd_same, List.map_append]; rfl, ?_, (sm.trans sr).put hN⟩
        · rw [List.length_map, RA.1, List.length_map, List.length_take]; show _ < 16777216; omega
        · rw [ek, List.map_append]
          exact ((RA.mono fun b xs e => sr _ _ e).snoc er (Alk.mono fun b xs e => sr _ _ (sm _ _ (s24 _ _ e)))).mono fun b xs e => (upd_ne (ne_of e hNe (by intro z; cases z))).trans e
    rintro H5 ⟨ro, hN5, RA5, s5⟩
    rw [List.length_map, l', List.take_length, isrt] at RA5
    exact k N ro H5 hN5 RA5 (s04.free hN) (s04.trans s5)
end
end K2
end
section
set_option Elab.async false
set_option maxRecDepth 100000
set_option linter.all false
/-! the law: the demands, or what is refused -/
namespace K2
open PySem PySem.W PySem.Calls L2 LfX PySem.Spec PyProof.Rows
abbrev sAs : Stmt := top 37
abbrev nAs : List Str := ["_law_acts_here", "_law_numbers_here", "_law_caught", "_law_found", "error"]
theorem tmF_what : tmF.lookup ("what" : Str) = some (.str "acts") := by
  rw [List.lookup_cons, show (("what" : Str) == ("most" : Str)) = false from by decide +kernel]
  exact List.lookup_cons_self
theorem tmF_most : tmF.lookup ("most" : Str) = some (.int 8) := List.lookup_cons_self
/-- what is known of the class TooMany -/
structure ManyN (K : PySem.W.Frag) (CT LE NA NR : Addr) : Prop where
  ex : PySem.W.exmOne K (.ref CT) (.ref LE) = some true
  isC : ExcC K CT
  xf : XfC K CT
  fw : PySem.W.findIn K (.ref CT) "what" = some none
  fm : PySem.W.findIn K (.ref CT) "most" = some none
  k1 : PySem.W.kitOne K (.ref CT) (.ref CT) = some true
  kt : PySem.W.kitAny K (.ref CT) ([NA, NR].map Value.ref) = some false
def spAs (P : Program) (w : World) (C D : Addr) : Sp := fun vs H Q _ => ∃ (l ln : Addr) (ts : List Addr) (U : ASet) (ms : List Nat), vs = [.ref l, .ref ln] ∧ UAt H l ts U ∧ OkV U ∧ H ln = some (.lst (intsV ms)) ∧ ms.length ≤ 100 ∧
  (InU 8 (leastC (numC U ms)) → ∀ (r : Addr) (H' : Hp), DmW P w C D H' r (leastC (numC U ms)) → Same H H' → Q (.ref r) H') ∧ (¬ InU 8 (leastC (numC U ms)) → ∀ (t : Addr) (H' : Hp), H' t = some (.tup [.str "acts", .int 8]) → Same H H' → Q (.ref t) H')
section
variable {P : Program} {w : World} {K : PySem.W.Frag} {mg : Str → Option Value} {base : Heap} {C D CT f : Addr} {fd : FuncData}
theorem scAs : FnScope nAs ["_law_acts_here", "_law_numbers_here"] (defScope sAs) := ⟨rfl, rfl, rfl, by decide +kernel, rfl, by decide +kernel, by decide +kernel⟩
theorem ok_as {fDd LE NA NR : Addr} {fdDd : FuncData} (F : Fun K "_law_asked" "_law_asked" sAs f fd) (T : Bi mg) (mgL : mg "LeaveError" = some (.ref LE)) (mgT : mg "TooMany" = some (.ref CT)) (mgA : mg "NoAct" = some (.ref NA)) (mgN : mg "NoRow" = some (.ref NR)) (M : ManyN K CT LE NA NR)
    (DD : Df K mg "_law_demands" sDd fDd fdDd ["_law_acts_here", "_law_numbers_here"]) (GDd : FnOk P w K mg base (L2.CX P w) 11 fDd fdDd ["_law_acts_here", "_law_numbers_here"] (spDdB P w C D CT)) : FnOk P w K mg base CX0 12 f fd ["_law_acts_here", "_law_numbers_here"] (spAs P w C D) := by
  refine F.ok scAs (fun vs H Q E h => ?_) (fun cdv A outer s H vs Q E hr h => ?_)
  · obtain ⟨l, ln, ts, U, ms, rfl, _⟩ := h
    rfl
  · obtain ⟨l, ln, ts, U, ms, rfl, HU, u, hn, h100, kQ, kE⟩ := h
    have hr11 : Room 11 _ := hr
    have hge : Gl (cxOf CX0 P w K mg base nAs "_law_asked" (defScope sAs) f cdv A outer s H E).nox "LeaveError" := by rfl
    refine ⟨_, (pss_cons (ps_set (i := 2) scAs.nd rfl (Or.inl rfl) pe_non)
      (pss_cons (ps_set (i := 3) scAs.nd rfl (Or.inl rfl) pe_non)
      (pss_cons (ps_try_asT (X := (cxOf CX0 P w K mg base nAs "_law_asked" (defScope sAs) f cdv A outer s H E).nox) (i := 4) (c := .ref LE)
        (tb := fun W D0 σ H => ∃ (Ech : XK) (l ln : Addr), (∀ cls d σ' H', Ech cls d H' → W cls d σ' H') ∧ σ[0]? = some (some (.ref l)) ∧ σ[1]? = some (some (.ref ln)) ∧ spDdB P w C D CT [.ref l, .ref ln] H (fun v H' => D0.nx (σ.set 3 (some v)) H') Ech)
        rfl rfl scAs.nd rfl (by rfl) ⟨hge, by decide +kernel, .inl mgL⟩ LamX.takes0 (fun W pn xe tk _ => ?tr) (fun a cls d pn => pss_one (ps_set (i := 2) scAs.nd rfl (Or.inl rfl) (pv 4))))
      (pss_cons (ps_if (pt_cmpR op_isN (pv 2) pe_non (nomark _)) (pss_one (ps_ret (pv 3))) pss_nil)
      (pss_cons (ps_if (PW.pt (pw_or (pt_not (pt_val (pe_callB call_isT (by rfl) T.isinstance (by decide +kernel) (pa_cons (pv 2) (pa_cons (pe_glob (v := .ref CT) (by rfl) mgT rfl) pa_nil)))))
          (pw_or1 (pt_val (pe_callB call_isTT (by rfl) T.isinstance (by decide +kernel) (pa_cons (pv 2) (pa_cons (pe_tup (pa_cons (pe_glob (v := .ref NA) (by rfl) mgA rfl) (pa_cons (pe_glob (v := .ref NR) (by rfl) mgN rfl) pa_nil))) pa_nil)))))))
        (pss_one (ps_ret (pe_tup (pa_cons pe_str pa_nil)))) pss_nil)
      (pss_one (ps_ret (pe_tup (pa_cons (pe_xt (pv 2)) (pa_cons (pe_xt (pv 2)) pa_nil)))))))))), ?body⟩
    case tr =>
      refine ⟨fun pins s' σ H' D0 I h' => ?_⟩
      obtain ⟨Ech, l, ln, hW, h0, h1, k⟩ := h'
      refine (pss_one (ps_set (i := 3) scAs.nd rfl (Or.inl rfl) (pe_call GDd hr11 (by rfl) DD.m DD.F.kp DD.b .nil (passes_call tk hW) (pa_cons (pv 0) (pa_cons (pv 1) pa_nil))))).run pins s' σ H' D0 I ?_
      exact ⟨_, h0, _, h1, k⟩
    refine ⟨fun cls d H' => ∃ dd, cls = .ref CT ∧ d = some dd ∧ H' dd = some (.xd tmF) ∧ Same H H' ∧ ¬ InU 8 (leastC (numC U ms)), l, ln, fun cls d σ' H' hm hlen => ?_, rfl, rfl, l, ln, ts, U, ms, rfl, HU, u, hn, h100, fun i r H' Dm s' => ?_, fun i d H' s' e => ⟨d, rfl, rfl, e, s', i⟩⟩
    · obtain ⟨dd, rfl, rfl, hx, sH, nin⟩ := hm
      refine ⟨true, M.ex, fun _ a na => ?_, fun z => nomatch z⟩
      obtain ⟨s0, s1, s2, s3, s4, rfl⟩ : ∃ s0 s1 s2 s3 s4, σ' = [s0, s1, s2, s3, s4] := by
        match σ', hlen with
        | [s0, s1, s2, s3, s4], _ => exact ⟨s0, s1, s2, s3, s4, rfl⟩
      have sE : Same H' (upd H' a (ExT (.ref CT) (some dd) a)) := (Same.refl H').put na
      have ha : (upd H' a (ExT (.ref CT) (some dd) a)) a = some (ExT (.ref CT) (some dd) a) := upd_same
      have hd := sE _ _ hx
      have s0H := sH.trans sE
      generalize upd H' a (ExT (.ref CT) (some dd) a) = He at *
      refine ⟨_, rfl, _, rfl, rfl, false, rfl, iteF ?_⟩
      refine ⟨_, rfl, a, CT, dd, tmF, _, _, _, rfl, ha, hd, M.isC, fun _ r => r, M.k1, _, rfl, iteF ?_⟩
      refine ⟨_, rfl, (by show 2 ≤ sizeLine; decide), fun t ht => ?_⟩
      have s4' : Same He (upd He t (.tup [.ref NA, .ref NR])) := (Same.refl He).put ht
      have e4 : (upd He t (.tup [.ref NA, .ref NR])) t = some (.tup ([NA, NR].map V.ref)) := upd_same
      generalize upd He t (.tup [.ref NA, .ref NR]) = H4 at s4' e4 ⊢
      refine ⟨a, CT, dd, t, tmF, [NA, NR], _, rfl, s4' _ _ ha, s4' _ _ hd, M.isC, e4, M.kt, _, rfl, iteF ?_⟩
      refine ⟨_, rfl, a, CT, dd, tmF, .str "acts", rfl, s4' _ _ ha, s4' _ _ hd, M.xf, M.fw, tmF_what, _, rfl, a, CT, dd, tmF, .int 8, rfl, s4' _ _ ha, s4' _ _ hd, M.xf, M.fm, tmF_most, (by show 2 ≤ sizeLine; decide), fun t2 ht2 => ?_⟩
      exact kE nin t2 _ upd_same ((s0H.trans s4').trans ((Same.refl H4).put ht2))
    · exact ⟨_, rfl, rfl, true, rfl, iteT ⟨_, rfl, kQ i r H' Dm s'⟩⟩
end
end K2
end
section
set_option Elab.async false
set_option maxRecDepth 100000
set_option linter.all false
/-! the law: whether demands keep what they must -/
namespace K2
open PySem PySem.W PySem.Calls L2 LfX PySem.Spec PyProof.Rows
abbrev sKp : Stmt := top 38
abbrev nKp : List Str := ["_law_pen_here", "_law_acts_here", "_law_numbers_here", "_law_due_here", "_law_found", "_law_s", "_law_pair", "_law_some", "_law_held", "_law_turned", "_law_less", "_law_one", "_law_k"]
theorem num_len (U : ASet) (ms : List Nat) : (leastC (numC U ms)).length ≤ ms.length := by
  have := least_n (numC U ms)
  unfold numC at this ⊢
  rwa [List.length_map] at this
/-- rows as data -/
def rowsD (ks : List ASet) : PyData := .list (ks.map actsD)
theorem rows_dp {K : PySem.W.Frag} {H : Hp} : ∀ {rs : List Addr} {ks : List ASet}, RwsAt H rs ks → DpAll K H (rs.map V.ref) (ks.map actsD)
  | [], [], _ => .nil
  | r :: rs, c :: ks, h => by
    obtain ⟨qs, e1, e2⟩ := h.2 0 r c rfl rfl
    exact .cons (actsT_dp e1 e2) (rows_dp ⟨by have := h.1; simpa using this, fun j q c a b => h.2 (j + 1) q c a b⟩)
  | [], _ :: _, h => by have := h.1; simp at this
  | _ :: _, [], h => by have := h.1; simp at this
theorem rowsL_dp {K : PySem.W.Frag} {H : Hp} {l : Addr} {rs : List Addr} {ks : List ASet} (hl : H l = some (.lst (rs.map V.ref))) (h : RwsAt H rs ks) : Dp K H (.ref l) (rowsD ks) := .lst (SqL.of hl) (rows_dp h)
theorem rows_lay : ∀ ks : List ASet, (∀ c ∈ ks, AllW c) → PyData.canLayAll0 (ks.map actsD) = true
  | [], _ => rfl
  | c :: ks, h => by
    show (PyData.canLay0 (actsD c) && PyData.canLayAll0 (ks.map actsD)) = true
    rw [rows_lay ks fun b hb => h b (List.mem_cons_of_mem _ hb), Bool.and_true]
    exact actsD_lay c fun a ha => (h c List.mem_cons_self a ha).ok
theorem actsAll_depth : ∀ as : List LfX.Act, PyData.depthAll (as.map actD) ≤ 2
  | [] => Nat.zero_le _
  | a :: as => Nat.max_le.mpr ⟨actD_depth a, actsAll_depth as⟩
theorem rows_depth : ∀ ks : List ASet, PyData.depthAll (ks.map actsD) ≤ 3
  | [] => Nat.zero_le _
  | c :: ks => Nat.max_le.mpr ⟨Nat.succ_le_succ (actsAll_depth c), rows_depth ks⟩
theorem rows_sh {ks : List ASet} (h : ∀ c ∈ ks, AllW c) : SeqAt.shaped (rowsD ks) = true := by
  have e : (rowsD ks).depth ≤ 64 := by
    have := rows_depth ks
    show PyData.depthAll _ + 1 ≤ 64
    omega
  show (_ && decide _) = true
  rw [show (rowsD ks).canLay0 = true from rows_lay ks h, decide_eq_true e]
  rfl
theorem rows_eqv (ks ls : List ASet) : PyData.eqv (rowsD ks) (rowsD ls) = decide (ks = ls) := by
  show PyData.eqvAll (ks.map actsD) (ls.map actsD) = _
  induction ks generalizing ls with
  | nil => cases ls <;> simp [PyData.eqvAll]
  | cons c ks ih =>
    cases ls with
    | nil => simp [PyData.eqvAll]
    | cons d ls =>
      show (PyData.eqv (actsD c) (actsD d) && PyData.eqvAll (ks.map actsD) (ls.map actsD)) = _
      rw [ih, actsD_eqv2, Bool.eq_iff_iff]
      simp
theorem cut_fromN {xs : List V} (b : Nat) : cutV xs (some ((b : Nat) : Int)) none = xs.drop b := by
  unfold cutV
  rw [sIx_nat]
  show (xs.drop (min b xs.length)).take (xs.length - min b xs.length) = _
  rw [List.take_of_length_le (by rw [List.length_drop]; exact Nat.le_refl _)]
  by_cases h : b ≤ xs.length
  · rw [Nat.min_eq_left h]
  · rw [Nat.min_eq_right (by omega), List.drop_length, List.drop_eq_nil_of_le (by omega)]
theorem cut_uptoN {xs : List V} (b : Nat) : cutV xs none (some ((b : Nat) : Int)) = xs.take b := by
  unfold cutV
  rw [sIx_nat]
  show xs.take (min b xs.length - 0) = _
  rw [Nat.sub_zero, Nat.min_comm]
  exact (List.take_eq_take_iff.mpr (by rw [Nat.min_assoc, Nat.min_comm b, ← Nat.min_assoc, Nat.min_self])).symm
/-- the numbers the other way round -/
def turnN (ms : List Nat) : List Nat := (List.range ms.length).map fun k => ms.getD (ms.length - 1 - k) 0
theorem mem_turnN {ms : List Nat} {m : Nat} : m ∈ turnN ms ↔ m ∈ ms := by
  unfold turnN
  rw [List.mem_map]
  constructor
  · rintro ⟨k, hk, rfl⟩
    have hk := List.mem_range.mp hk
    have hj : ms.length - 1 - k < ms.length := by omega
    rw [List.getD_eq_getElem?_getD, List.getElem?_eq_getElem hj]
    exact List.getElem_mem hj
  · intro h
    obtain ⟨j, hj, rfl⟩ := List.mem_iff_getElem.mp h
    refine ⟨ms.length - 1 - j, List.mem_range.mpr (by omega), ?_⟩
    have e : ms.length - 1 - (ms.length - 1 - j) = j := by omega
    rw [e, List.getD_eq_getElem?_getD, List.getElem?_eq_getElem hj]
    rfl
theorem turn_least {U : ASet} (w : AllW U) (ms : List Nat) : leastC (numC U (turnN ms)) = leastC (numC U ms) := Over.one (Over.num w _) (Over.num w _) fun S => by
  rw [up_num, up_num]
  exact ⟨fun ⟨m, a, b⟩ => ⟨m, mem_turnN.mp a, b⟩, fun ⟨m, a, b⟩ => ⟨m, mem_turnN.mpr a, b⟩⟩
theorem ps_impA {X : Cx} {st : Stmt} {t t' : L2.TS} (h : PS X st t) (k : ∀ D σ H, t' D σ H → t D σ H) : PS X st t' := ⟨fun pins s σ H D I q => h.run pins s σ H D I (k D σ H q)⟩
theorem sub_ty {K : PySem.W.Frag} {C : Addr} {T : String} {l : List String} (e : fastBuiltinMro T = some (l.map Value.type)) : PySem.W.subIn K (.type T) (.ref C) = some false := by
  show (fastBuiltinMro T).map (·.contains (.ref C)) = some false
  rw [e]
  simp
theorem nf_ty {K : PySem.W.Frag} {C : Addr} {T : String} {l : List String} (e : fastBuiltinMro T = some (l.map Value.type)) : PySem.W.notFirst K C (.type T) = true := by
  unfold PySem.W.notFirst
  rw [sub_ty e]
  simp
theorem initBw {P : Program} {w : World} {C D CT : Addr} {H : Hp} {os : List Addr} {cs : List ASet} {E : XK} (S : SetsAt P w C H os cs) (g : OkB cs) (i8 : InU 8 (leastC cs)) :
    ∀ x dx, H x = none → H dx = none → dx ≠ x → ∀ Q : VK, (∀ H' : Hp, DmW P w C D H' x (leastC cs) → Same H H' → Q .non H') → spDiBR P w C D CT (V.ref x :: os.map V.ref) (upd (upd H dx (.own x)) x (.ins D dx [])) Q E := by
  intro x dx nx ndx ne Q k
  refine ⟨[V.ref x], _, rfl, rfl, ?_, fun pt hpt => ?_⟩
  · rw [List.length_map, S.1]; have := g.n; show _ ≤ 16777216; omega
  have s1 : Same H (upd (upd H dx (.own x)) x (.ins D dx [])) := ((Same.refl H).put ndx).put nx
  have s2 : Same H (upd (upd (upd H dx (.own x)) x (.ins D dx [])) pt (.tup (os.map V.ref))) := s1.put (s1.free hpt)
  exact ⟨x, dx, pt, os, cs, rfl, by rw [upd_ne (ne_of_none upd_same hpt), upd_same], upd_same, S.same s2, g, fun i H' cl kp => k H' cl fun b o e => kp b o (s2 b o e) (ne_of_none e nx), fun z => absurd i8 z⟩
def tS6 : L2.TS := fun D0 σ H => ∃ (s0 s3 s4 s5 s6 s7 s8 s9 s10 s11 s12 : Option V) (l ln : Addr) (ts : List Addr) (U : ASet) (ms : List Nat), σ = [s0, some (.ref l), some (.ref ln), s3, s4, s5, s6, s7, s8, s9, s10, s11, s12] ∧ UAt H l ts U ∧ OkU U ∧ H ln = some (.lst (intsV ms)) ∧ ms.length ≤ 100 ∧
  ∀ (v6 : Option V) (H' : Hp), Same H H' → D0.nx [s0, some (.ref l), some (.ref ln), s3, s4, s5, v6, s7, s8, s9, s10, s11, s12] H'
def spKp : Sp := fun vs H Q _ => ∃ (p c l ln : Addr) (ns : List Int) (n : Nat) (ts : List Addr) (U : ASet) (ms : List Nat), vs = [.ref p, .ref l, .ref ln] ∧ Pen H p c ns n ∧ n + 40 ≤ 99990 ∧ l ≠ p ∧ ln ≠ p ∧ UAt H l ts U ∧ OkU U ∧ H ln = some (.lst (intsV ms)) ∧ ms.length ≤ 100 ∧ Nums U ms ∧
  ∀ (H' : Hp), Keep p H H' → Pen H' p c ns (n + 30) → Q (.bl true) H'
section
variable {P : Program} {w : World} {K : PySem.W.Frag} {mg : Str → Option Value} {base : Heap} {C D CT f : Addr} {fd : FuncData}
theorem scKp : FnScope nKp ["_law_pen_here", "_law_acts_here", "_law_numbers_here"] (defScope sKp) := ⟨rfl, rfl, rfl, by decide +kernel, rfl, by decide +kernel, by decide +kernel⟩
set_option maxHeartbeats 4000000 in
theorem ok_kp {fPa fDd fNu fMe fDz fAs fI fDe fDc fDl fDg pM fM pN fN : Addr} {mc md : Value} {fdPa fdDd fdNu fdMe fdDz fdAs fdDe fdDc fdDl fdDg fdM fdN : FuncData} (F : Fun K "_law_kept" "_law_kept" sKp f fd) (T : Bi mg) (YC : TxA K mg C) (Y : TxD K mg D) (O : OwnA K D) (MD : Mk K D fI) (GI : FnR P w K mg base (L2.CX P w) 8 fI (spDiBR P w C D CT))
    (PA : Df K mg "_law_part" sPa fPa fdPa ["_law_acts_here", "_law_s"]) (GPa : FnOk P w K mg base CX0 1 fPa fdPa ["_law_acts_here", "_law_s"] spPaV)
    (DD : Df K mg "_law_demands" sDd fDd fdDd ["_law_acts_here", "_law_numbers_here"]) (GDd : FnOk P w K mg base (L2.CX P w) 11 fDd fdDd ["_law_acts_here", "_law_numbers_here"] (spDdB P w C D CT))
    (NU : Df K mg "_law_numbers" sNu fNu fdNu ["_law_pen_here", "_law_acts_here"]) (GNu : FnOk P w K mg base CX0 2 fNu fdNu ["_law_pen_here", "_law_acts_here"] spNu)
    (ME : Df K mg "_law_met" sMe fMe fdMe ["_law_numbers_here", "_law_s"]) (GMe : FnOk P w K mg base CX0 1 fMe fdMe ["_law_numbers_here", "_law_s"] spMe)
    (DZ : Df K mg "_law_due" sDz fDz fdDz ["_law_acts_here", "_law_numbers_here"]) (GDz : FnOk P w K mg base CX0 5 fDz fdDz ["_law_acts_here", "_law_numbers_here"] spDz)
    (AS : Df K mg "_law_asked" sAs fAs fdAs ["_law_acts_here", "_law_numbers_here"]) (GAs : FnOk P w K mg base CX0 12 fAs fdAs ["_law_acts_here", "_law_numbers_here"] (spAs P w C D))
    (cR : ClX.CRead K C mc) (cM : ClX.CMet K C mc "made" pM fM) (GM : FnOk P w K mg base CX0 6 fM fdM ["cls", "rows"] (spMdA P w C)) (bM : Binds K fdM ["cls", "rows"] [])
    (dR : ClX.CRead K D md) (dM : ClX.CMet K D md "made" pN fN) (GN : FnOk P w K mg base (L2.CX P w) 10 fN fdN ["cls", "sets"] (spDmT P w C D CT)) (bN : Binds K fdN ["cls", "sets"] [])
    (GDe : FnOk P w K mg base CX0 3 fDe fdDe ["self", "other"] (spDeB P w C D)) (bDe : Binds K fdDe ["self", "other"] []) (hDe : PySem.W.findIn K (.ref D) "__eq__" = some (some (.ref fDe))) (hDef : PySem.W.isFn K (.ref fDe) = true)
    (cDc : StX.CallO K D fDc) (GDc : FnOk P w K mg base CX0 5 fDc fdDc ["self", "acts"] (spDc P w C D)) (bDc : Binds K fdDc ["self", "acts"] [])
    (GDl : FnOk P w K mg base CX0 1 fDl fdDl ["self"] (spDl P w C D)) (bDl : Binds K fdDl ["self"] []) (hDl : PySem.W.findIn K (.ref D) "__len__" = some (some (.ref fDl))) (hDlf : PySem.W.isFn K (.ref fDl) = true)
    (GDg : FnOk P w K mg base CX0 1 fDg fdDg ["self", "at"] (spDg P w C D)) (bDg : Binds K fdDg ["self", "at"] []) (hDg : PySem.W.findIn K (.ref D) "__getitem__" = some (some (.ref fDg))) (hDgf : PySem.W.isFn K (.ref fDg) = true) (hDgi : PySem.W.fnIn K fDg = true) :
    FnOk P w K mg base CX0 13 f fd ["_law_pen_here", "_law_acts_here", "_law_numbers_here"] spKp := by
  refine F.ok scKp (fun vs H Q E h => ?_) (fun cdv A outer s H vs Q E hr h => ?_)
  · obtain ⟨p, c, l, ln, ns, n, ts, U, ms, rfl, _⟩ := h
    rfl
  · obtain ⟨p, c, l, ln, ns, n, ts, U, ms, rfl, P0, hn, nl, nln, HU, u, hms, h100, nums, k⟩ := h
    have hr12 : Room 12 _ := hr
    have hr11 : Room 11 _ := hr.mono (by decide)
    have hr10 : Room 10 _ := hr.mono (by decide)
    have hr9 : Room 9 _ := hr.mono (by decide)
    have hr6 : Room 6 _ := hr.mono (by decide)
    have hr5 : Room 5 _ := hr.mono (by decide)
    have hr3 : Room 3 _ := hr.mono (by decide)
    have hr2 : Room 2 _ := hr.mono (by decide)
    have hr1 : Room 1 _ := hr.mono (by decide)
    have hu0 := u0_of hr
    refine ⟨_, (pss_cons (ps_set (i := 3) scKp.nd rfl (Or.inl rfl) (pe_call GDz hr5 (by rfl) DZ.m DZ.F.kp DZ.b .nil pass0 (pa_cons (pv 1) (pa_cons (pv 2) pa_nil))))
      (pss_cons (ps_set (i := 4) scKp.nd rfl (Or.inr rfl) (pe_call GAs hr12 (by rfl) AS.m AS.F.kp AS.b .nil pass0 (pa_cons (pv 1) (pa_cons (pv 2) pa_nil))))
      (pss_cons (ps_if (PW.pt (pw_or (pt_not (pt_val (pe_callB call_isi (by rfl) T.isinstance (by decide +kernel) (pa_cons (pv 4) (pa_cons (pe_glob (v := .ref D) rfl Y.mgD rfl) pa_nil))))) (pw_or (pt_cmpR op_ne (pe_callB (call_lenO GDl bDl pass0 hr2 hDl hDlf) (by rfl) T.len (by decide +kernel) (pa_cons (pv 4) pa_nil)) (pe_callB call_len_seq (by rfl) T.len PySem.boot_len (pa_cons (pv 3) pa_nil)) (nomark _)) (pw_or1 (pt_not (pt_val (pe_callB call_isi (by rfl) T.isinstance (by decide +kernel) (pa_cons (pe_fld (pv 4) rfl) (pa_cons (pe_bltn (v := .ty "tuple") (by rfl) T.tuple (by decide +kernel) rfl) pa_nil)))))))))
        (pss_one (ps_ret pe_bl)) pss_nil)
      (pss_cons (ps_if (PW.pt (pw_or (pt_cmpR (op_neD hr.units) (pe_lc (own := [("_law_one", 11)]) (g := gName 11) (tt := tYes) (te := tFld K (tVar 11) "rows") rfl scKp.nd (pi_list (pe_callTy call_list_of (by rfl) T.list (by decide +kernel) (pa_cons (pe_fld (pv 4) rfl) pa_nil))) (blkOk_by (N := nKp) (sc := defScope sKp) (by decide +kernel)) (fun _ _ _ _ _ => pg_name (i := 11) scKp.nd rfl (Or.inl rfl)) (fun _ _ _ _ _ => pts_nil) (fun s1 H1 C1 cl1 fp1 => ?el1)) (pv 3) (nomark _))
          (pw_or1 (pt_cmpR (op_neD hr.units) (pe_lc (own := [("_law_k", 12)]) (g := gName 12) (tt := tYes) (te := tFld K (tOp (fun x y H Q => ∃ a dx fs, x = .ref a ∧ H a = some (.ins D dx fs) ∧ spDg P w C D [.ref a, y] H Q E0) (tVar 4) (tVar 12)) "rows") rfl scKp.nd (pi_range1 rfl T.range (pa_cons (pe_callB call_len_seq (by rfl) T.len PySem.boot_len (pa_cons (pv 3) pa_nil)) pa_nil)) (blkOk_by (N := nKp) (sc := defScope sKp) (by decide +kernel)) (fun _ _ _ _ _ => pg_name (i := 12) scKp.nd rfl (Or.inl rfl)) (fun _ _ _ _ _ => pts_nil) (fun s1 H1 C1 cl1 fp1 => ?el2)) (pv 3) (nomark _)))))
        (pss_one (ps_ret pe_bl)) pss_nil)
      (pss_cons (ps_for PassesOwn.never rfl (pi_list (pe_call GNu hr2 (by rfl) NU.m NU.F.kp NU.b .nil pass0 (pa_cons (pv 0) (pa_cons (pv 1) pa_nil)))) (pg_name (i := 5) scKp.nd rfl (Or.inl rfl))
        (pss_one (ps_if (pt_cmpR op_ne (StX.pe_callO (pv 4) cDc (GDc.raw bDc .nil) hr5 pass0 (pa_cons (ClX.pe_cmeth (pe_glob (v := .ref C) rfl YC.mgC rfl) cR cM (GM.raw bM .nil) hr6 pass0 (pa_cons (pe_call GPa hr1 (by rfl) PA.m PA.F.kp PA.b .nil pass0 (pa_cons (pv 1) (pa_cons (pv 5) pa_nil))) pa_nil)) pa_nil)) (pe_call GMe hr1 (by rfl) ME.m ME.F.kp ME.b .nil pass0 (pa_cons (pv 2) (pa_cons (pv 5) pa_nil))) (nomark _))
          (pss_one (ps_ret pe_bl)) pss_nil)))
      (pss_cons (ps_impA (t' := tS6) (ps_if (pt_cmpR op_gt (pe_callB call_len_seq (by rfl) T.len PySem.boot_len (pa_cons (pv 2) pa_nil)) pe_int (nomark _))
        (pss_cons (ps_set (i := 6) scKp.nd rfl (Or.inl rfl) (StX.pe_makeR MD GI hr9 (by rfl) Y.mgD passF (pa_cons (ClX.pe_cmeth (pe_glob (v := .ref C) rfl YC.mgC rfl) cR cM (GM.raw bM .nil) hr6 pass0 (pa_cons (pe_call GPa hr1 (by rfl) PA.m PA.F.kp PA.b .nil pass0 (pa_cons (pv 1) (pa_cons (pe_ix ix_list (pv 2) pe_int (fun _ _ => rfl)) pa_nil))) pa_nil)) (pa_cons (ClX.pe_cmeth (pe_glob (v := .ref C) rfl YC.mgC rfl) cR cM (GM.raw bM .nil) hr6 pass0 (pa_cons (pe_call GPa hr1 (by rfl) PA.m PA.F.kp PA.b .nil pass0 (pa_cons (pv 1) (pa_cons (pe_ix ix_list (pv 2) pe_int (fun _ _ => rfl)) pa_nil))) pa_nil)) pa_nil))))
        (pss_one (ps_if (pt_not (pt_cmpR (op_eqO GDe bDe pass0 hr3 hu0 hDe hDef) (pv 6) (pe_call GDd hr11 (by rfl) DD.m DD.F.kp DD.b .nil passF (pa_cons (pv 1) (pa_cons (pe_slice sl_list (pv 2) po_none (po_some pe_int)) pa_nil))) (nomark _)))
          (pss_one (ps_ret pe_bl)) pss_nil)))
        pss_nil) (fun D0 σ H h => ?s6))
      (pss_cons (ps_setLc (i := 7) (own := [("_law_s", 5)]) (g := gName 5) (tt := tYes) rfl scKp.nd rfl rfl (sw_true rfl rfl rfl (by decide +kernel)) (pi_list (pv 2)) (blkOk_by (N := nKp) (sc := defScope sKp) (by decide +kernel)) (fun _ _ _ _ _ => pg_name (i := 5) scKp.nd rfl (Or.inl rfl)) (fun _ _ _ _ _ => pts_nil) (fun _ _ _ _ _ => ClX.pe_cmeth (pe_glob (v := .ref C) rfl YC.mgC rfl) cR cM (GM.raw bM .nil) hr6 pass0 (pa_cons (pe_call GPa hr1 (by rfl) PA.m PA.F.kp PA.b .nil pass0 (pa_cons (pv 1) (pa_cons (pv 5) pa_nil))) pa_nil)))
      (pss_cons (ps_setLc (i := 8) (own := [("_law_one", 11)]) (g := gName 11) (tt := tYes) (te := tFld K (tVar 11) "rows") rfl scKp.nd rfl rfl (sw_true rfl rfl rfl (by decide +kernel)) (pi_list (pv 7)) (blkOk_by (N := nKp) (sc := defScope sKp) (by decide +kernel)) (fun _ _ _ _ _ => pg_name (i := 11) scKp.nd rfl (Or.inl rfl)) (fun _ _ _ _ _ => pts_nil) (fun s1 H1 C1 cl1 fp1 => ?el3))
      (pss_cons (ps_if (PW.pt (pw_or (pt_not (pt_cmpR (op_eqO GDe bDe pass0 hr3 hu0 hDe hDef) (ClX.pe_cmeth (pe_glob (v := .ref D) rfl Y.mgD rfl) dR dM (GN.raw bN .nil) hr10 passF (pa_cons (pv 7) pa_nil)) (pv 4) (nomark _))) (pw_or1 (pt_not (pt_cmpR (op_eqO GDe bDe pass0 hr3 hu0 hDe hDef) (ClX.pe_cmeth (pe_glob (v := .ref D) rfl Y.mgD rfl) dR dM (GN.raw bN .nil) hr10 passF (pa_cons (pe_callTy call_tuple_of (by rfl) T.tuple (by decide +kernel) (pa_cons (pv 7) pa_nil)) pa_nil)) (pv 4) (nomark _))))))
        (pss_one (ps_ret pe_bl)) pss_nil)
      (pss_cons (ps_if (pt_cmpR (op_neD hr.units) (pe_lc (own := [("_law_one", 11)]) (g := gName 11) (tt := tYes) (te := tFld K (tVar 11) "rows") rfl scKp.nd (pi_list (pv 7)) (blkOk_by (N := nKp) (sc := defScope sKp) (by decide +kernel)) (fun _ _ _ _ _ => pg_name (i := 11) scKp.nd rfl (Or.inl rfl)) (fun _ _ _ _ _ => pts_nil) (fun s1 H1 C1 cl1 fp1 => ?el4)) (pv 8) (nomark _))
        (pss_one (ps_ret pe_bl)) pss_nil)
      (pss_cons (ps_set (i := 9) scKp.nd rfl (Or.inl rfl) (pe_call GDd hr11 (by rfl) DD.m DD.F.kp DD.b .nil passF (pa_cons (pv 1) (pa_cons (pe_lc (own := [("_law_k", 12)]) (g := gName 12) (tt := tYes) (te := tOp (rIxL K) (tVar 2) (tOp (rI0 fun i j => .int (i - j)) (tOp (rI0 fun i j => .int (i - j)) (tCB (fun xs H Q => ∃ p ys, xs = [V.ref p] ∧ (SqL K H p ys ∨ SqT K H p ys) ∧ Q (.int (ys.length : Nat)) H) (tCons (tVar 2) tNil)) (tC (.int 1))) (tVar 12))) rfl scKp.nd (pi_range1 rfl T.range (pa_cons (pe_callB call_len_seq (by rfl) T.len PySem.boot_len (pa_cons (pv 2) pa_nil)) pa_nil)) (blkOk_by (N := nKp) (sc := defScope sKp) (by decide +kernel)) (fun _ _ _ _ _ => pg_name (i := 12) scKp.nd rfl (Or.inl rfl)) (fun _ _ _ _ _ => pts_nil) (fun s1 H1 C1 cl1 fp1 => ?el5)) pa_nil))))
      (pss_cons (ps_set (i := 10) scKp.nd rfl (Or.inl rfl) (pe_call GDd hr11 (by rfl) DD.m DD.F.kp DD.b .nil passF (pa_cons (pv 1) (pa_cons (pe_slice sl_list (pv 2) (po_some pe_int) po_none) pa_nil))))
      (pss_one (ps_ret (pe_and (pe_cmpR (op_eqO GDe bDe pass0 hr3 hu0 hDe hDef) (pv 4) (pv 9) (nomark _)) (pe_and (pe_cmpR op_eq (pe_cmpR (op_eqO GDe bDe pass0 hr3 hu0 hDe hDef) (pv 4) (pv 10) (nomark _)) (pe_cmpR (op_eqD hr.units) (pv 3) (pe_call GDz hr5 (by rfl) DZ.m DZ.F.kp DZ.b .nil pass0 (pa_cons (pv 1) (pa_cons (pe_slice sl_list (pv 2) (po_some pe_int) po_none) pa_nil))) (nomark _)) (nomark _)) (pe_one (pe_not (pe_cmpR (op_eqO GDe bDe pass0 hr3 hu0 hDe hDef) (pv 4) (pv 3) (nomark _)))))))))))))))))))), ?_⟩
    case el1 => exact pe_fld (pv 11) rfl
    case el2 => exact pe_fld (pe_ixO GDg bDg pass0 hr2 hDg hDgi hDgf (pv 4) (pv 12) (fun _ _ => rfl)) rfl
    case el3 => exact pe_fld (pv 11) rfl
    case el4 => exact pe_fld (pv 11) rfl
    case el5 => exact pe_ix ix_list (pv 2) (pe_op op_sub (pe_op op_sub (pe_callB call_len_seq (by rfl) T.len PySem.boot_len (pa_cons (pv 2) pa_nil)) pe_int) (pv 12)) (fun _ _ => rfl)
    case s6 =>
      obtain ⟨s0, s3, s4, s5, s6, s7, s8, s9, s10, s11, s12, l, ln, ts, U, ms, rfl, HU, u, hms, h100, k⟩ := h
      refine ⟨_, rfl, ln, _, rfl, .inl (SqL.of hms), _, _, rfl, rfl, _, rfl, ite2 (fun hg => ?_) (fun _ => k _ _ (Same.refl H))⟩
      have h1 : 1 < ms.length := by
        have := of_decide_eq_true hg
        rw [intsV_len] at this
        omega
      obtain ⟨m0, m1, mr, rfl⟩ : ∃ m0 m1 mr, ms = m0 :: m1 :: mr := by
        match ms, h1 with
        | m0 :: m1 :: mr, _ => exact ⟨m0, m1, mr, rfl⟩
      have ul := u.l
      have bl0 := bitsF_len U m0
      have bl1 := bitsF_len U m1
      refine ⟨rfl, _, rfl, _, rfl, ln, _, _, _, rfl, rfl, SqL.of hms, atI_nat (j := 0) rfl, l, ts, U, m0, rfl, HU, u.v, fun r1 q1 G1 g1 A1 t1 => ⟨r1, q1, bitsF U m0, rfl, g1, A1, bitsF_w u.w m0, by omega, fun a1 G2 w1 t2 => ?_⟩⟩
      have t02 := t1.trans t2
      refine ⟨rfl, _, rfl, _, rfl, ln, _, _, _, rfl, rfl, SqL.of (t02 _ _ hms), atI_nat (j := 1) rfl, l, ts, U, m1, rfl, HU.same t02, u.v, fun r3 q3 G3 g3 A3 t3 => ⟨r3, q3, bitsF U m1, rfl, g3, A3, bitsF_w u.w m1, by omega, fun a4 G4 w4 t4 => ?_⟩⟩
      have t04 := (t02.trans t3).trans t4
      have e2 : numC U ((m0 :: m1 :: mr).take 2) = [setN U m0, setN U m1] := rfl
      have S2 : SetsAt P w C G4 [a1, a4] (numC U ((m0 :: m1 :: mr).take 2)) := by
        rw [e2]
        exact (SetsAt.nil.snoc (os := []) (cs := []) (w1.same (t3.trans t4))).snoc (os := [a1]) w4
      have Ov := Over.num u.w ((m0 :: m1 :: mr).take 2)
      refine fun o5 dx0 nx0 ndx0 ne0 => initBw (CT := CT) (os := [a1, a4]) S2 (Ov.b (by omega) (by show 2 ≤ 10000; decide)) (Ov.in8 u.l) o5 dx0 nx0 ndx0 ne0 _ fun G5 D5 t5 => ⟨rfl, ?_⟩
      have t05 := t04.trans t5
      refine ⟨_, rfl, _, rfl, _, rfl, _, rfl, ln, _, rfl, SqL.of (t05 _ _ hms), fun w6 hw6 => ?_⟩
      rw [show (2 : Int) = ((2 : Nat) : Int) from rfl, cut_uptoN, show (intsV (m0 :: m1 :: mr)).take 2 = intsV ((m0 :: m1 :: mr).take 2) from rfl]
      have t6 : Same G5 (upd G5 w6 (.lst (intsV ((m0 :: m1 :: mr).take 2)))) := (Same.refl G5).put hw6
      have g6 : (upd G5 w6 (.lst (intsV ((m0 :: m1 :: mr).take 2)))) w6 = some (.lst (intsV ((m0 :: m1 :: mr).take 2))) := upd_same
      generalize upd G5 w6 (.lst (intsV ((m0 :: m1 :: mr).take 2))) = G6 at t6 g6 ⊢
      refine ⟨l, w6, ts, U, _, rfl, (HU.same t05).same t6, u.v, g6, by show 2 ≤ 100; decide, fun _ o7 G7 D7 t7 => ?_, fun z => absurd (Ov.in8 u.l) z⟩
      have D5' := D5.same (t6.trans t7)
      obtain ⟨dx5, fs5, j5, _⟩ := D5'.ins
      have gw : ∀ c ∈ leastC (numC U ((m0 :: m1 :: mr).take 2)), AllW c := fun c hc => (Ov.least.g c hc).w
      refine ⟨o5, dx5, fs5, rfl, j5, ⟨.ref D, D7.ty Y.cl O, by simp [PySem.W.notFirst]⟩, o5, .ref o7, _, rfl, D5', gw, .inl ⟨o7, _, rfl, D7, gw, fun G8 t8 => ⟨_, rfl, _, rfl, ?_⟩⟩⟩
      rw [decide_eq_true rfl]
      exact iteF (k _ _ (((t05.trans t6).trans t7).trans t8))
    have ul := u.l
    have i8 : ∀ ms : List Nat, InU 8 (leastC (numC U ms)) := fun ms => (Over.num u.w ms).in8 u.l
    have Ov := fun ms : List Nat => Over.num u.w ms
    have gw : ∀ ms : List Nat, ∀ c ∈ leastC (numC U ms), AllW c := fun ms c hc => ((Ov ms).least.g c hc).w
    have lk := num_len U ms
    have lk2 := num_len U (ms.drop 1)
    refine ⟨_, rfl, _, rfl, l, ln, ts, U, ms, rfl, HU, u.v, hms, h100, nums, fun du rd H1 e1 R1 ndu s1 => ?_⟩
    refine ⟨_, rfl, _, rfl, l, ln, ts, U, ms, rfl, HU.same s1, u.v, s1 _ _ hms, h100, fun _ o2 H2 D2 s2 => ?_, fun z => absurd (i8 _) z⟩
    obtain ⟨ks, hks⟩ : ∃ ks, ks = leastC (numC U ms) := ⟨_, rfl⟩
    have gks : ∀ c ∈ ks, AllW c := by rw [hks]; exact gw ms
    have callk : ∀ c ∈ ks, AllW c ∧ c.length ≤ 400 := by rw [hks]; exact (Ov ms).least.call (by omega)
    rw [← hks] at R1 D2 lk
    have shk := rows_sh gks
    have s02 := s1.trans s2
    have e12 := s2 _ _ e1
    have R12 : RwsAt H2 rd ks := R1.mono fun b xs e => s2 _ _ e
    obtain ⟨dx0, r0, os0, h1, h2, h3⟩ := id D2
    have rl : rd.length = ks.length := R1.1
    refine ⟨_, rfl, _, _, _, _, true, rfl, .own D, D2.ty Y.cl O, kit_own D, _, rfl, iteF ?_⟩
    refine ⟨_, rfl, o2, dx0, _, rfl, h1, o2, ks, rfl, D2, ks.length, rfl, by omega, _, rfl, du, _, rfl, .inl (SqL.of e12), rfl, _, rfl, ?_⟩
    rw [List.length_map, rl, decide_eq_true rfl]
    refine iteF ?_
    refine ⟨_, rfl, o2, D, dx0, _, _, rfl, h1, Y.cl, Y.nS, fldD_sets _, _, _, _, _, true, rfl, .ty _, .base (.tup h2), kit_ty (by decide +kernel), _, rfl, iteF ?_⟩
    -- the rows of its sets
    refine ⟨_, rfl, o2, D, dx0, _, _, rfl, h1, Y.cl, Y.nS, fldD_sets _, r0, _, rfl, .inr (SqT.of h2), fun q0 hq0 => ?_⟩
    have s3 : Same H2 (upd H2 q0 (.lst (os0.map V.ref))) := (Same.refl H2).put hq0
    have e3 : (upd H2 q0 (.lst (os0.map V.ref))) q0 = some (.lst (os0.map V.ref)) := upd_same
    generalize upd H2 q0 (.lst (os0.map V.ref)) = H3 at s3 e3 ⊢
    have S3 := h3.same s3
    refine ⟨q0, rfl, ⟨_, SqL.of e3⟩, fun N hN => ?_⟩
    refine lc_list (K := K) (a := q0) (xs := os0.map V.ref) (fun i Hx => ∃ rs : List Addr, Hx N = some (.lst (rs.map V.ref)) ∧ RwsAt Hx rs (ks.take i) ∧ Same H3 Hx) ?_ ?_ ?_ ?_
    · exact ⟨[], upd_same, RwsAt.nil, (Same.refl H3).put hN⟩
    · rintro i Hx _ ⟨_, _, _, sx⟩
      exact SqL.of (sx _ _ e3)
    · rintro i y Hx hy ⟨rs, hNx, RA, sx⟩
      obtain ⟨o, ct, rfl, hc, ho, A0, hi⟩ := S3.nth hy
      have et : ks.take (i + 1) = ks.take i ++ [ct] := by rw [List.take_add_one, hc]; rfl
      obtain ⟨dx, d', r, xs, qs, a1, a2, a3, a4, a5⟩ := A0.same sx
      refine ⟨rfl, _, rfl, o, C, dx, _, _, rfl, a1, YC.cl, YC.nR, fldA_rows _ _, _, hNx, ?_, rs ++ [r], by rw [upd_same, List.map_append]; rfl, ?_, sx.put hN⟩
      · rw [List.length_map, RA.1, List.length_take]; show _ < 16777216; omega
      · rw [et]
        exact (RA.snoc a4 a5).mono fun b xs e => (upd_ne (ne_of e hNx (by intro z; cases z))).trans e
    rintro H4 ⟨r4, e4, RA4, s4⟩
    rw [List.length_map, S3.1, List.take_length] at RA4
    have s24 := s3.trans s4
    have e14 := s24 _ _ e12
    have R14 : RwsAt H4 rd ks := R12.mono fun b xs e => s24 _ _ e
    refine ⟨_, rfl, rowsD ks, rowsD ks, rowsL_dp e4 RA4, rowsL_dp e14 R14, shk, shk, _, rfl, ?_⟩
    rw [rows_eqv, decide_eq_true rfl]
    refine iteF ?_
    have D24 := D2.same s24
    clear h1 h2 h3 S3 s3 e3 RA4 e4 hN hq0
    refine ⟨_, rfl, du, _, rfl, .inl (SqL.of e14), _, rfl, by omega, by rw [List.length_map]; omega, fun N hN => ?_⟩
    rw [List.length_map, rl]
    refine lc_range (lo := 0) (n := ks.length) (fun i Hx => ∃ rs : List Addr, Hx N = some (.lst (rs.map V.ref)) ∧ RwsAt Hx rs (ks.take i) ∧ Same H4 Hx) ?_ ?_ ?_
    · exact ⟨[], upd_same, RwsAt.nil, (Same.refl H4).put hN⟩
    · rintro i Hx hi ⟨rs, hNx, RA, sx⟩
      rw [Int.zero_add]
      have hci : ks[i]? = some ks[i] := List.getElem?_eq_getElem hi
      generalize ks[i] = ct at hci
      have et : ks.take (i + 1) = ks.take i ++ [ct] := by rw [List.take_add_one, hci]; rfl
      have D2x := D24.same sx
      obtain ⟨dz, fz, iz, _⟩ := D2x.ins
      refine ⟨rfl, _, rfl, _, rfl, o2, dz, fz, rfl, iz, o2, ks, i, ct, rfl, D2x, hci, fun q Aq => ?_⟩
      obtain ⟨dx, d', r, xs, qs, a1, a2, a3, a4, a5⟩ := id Aq
      refine ⟨q, C, dx, _, _, rfl, a1, YC.cl, YC.nR, fldA_rows _ _, _, hNx, ?_, rs ++ [r], by rw [upd_same, List.map_append]; rfl, ?_, sx.put hN⟩
      · rw [List.length_map, RA.1, List.length_take]; show _ < 16777216; omega
      · rw [et]
        exact (RA.snoc a4 a5).mono fun b xs e => (upd_ne (ne_of e hNx (by intro z; cases z))).trans e
    rintro H5 ⟨r5, e5, RA5, s5⟩
    rw [List.take_length] at RA5
    have e15 := s5 _ _ e14
    have R15 : RwsAt H5 rd ks := R14.mono fun b xs e => s5 _ _ e
    refine ⟨_, rfl, rowsD ks, rowsD ks, rowsL_dp e5 RA5, rowsL_dp e15 R15, shk, shk, _, rfl, ?_⟩
    rw [rows_eqv, decide_eq_true rfl]
    refine iteF ?_
    have D25 := D24.same s5
    have s05 := s02.trans (s24.trans s5)
    have HU5 := HU.same s05
    have hms5 := s05 _ _ hms
    have P5 := P0.same s05
    have ndp : du ≠ p := refs_ne_pen P5 e15
    clear D24 RA5 e5 R14 e14 R12 e12 D2 R1 e1 hN
    refine ⟨_, rfl, _, rfl, p, c, l, ns, n, ts, U, rfl, P5, by omega, nl, HU5, u.l, fun lm ns2 H7 hlm nl2 nu2 nlm k7 P7 => ?_⟩
    have D27 := D25.keep P5 k7
    have HU7 := HU5.keep P5 k7 nl
    have hms7 := k7 _ _ hms5 nln
    have e17 := k7 _ _ e15 ndp
    have R17 : RwsAt H7 rd ks := R15.mono fun b xs e => k7 b _ e (P5.tup_ne e)
    have k07 := s05.keep.trans k7
    clear D25 HU5 hms5 e15 R15
    refine ⟨lm, rfl, ⟨_, SqL.of hlm⟩, ?_⟩
    refine for_list (K := K) (a := lm) (xs := intsV ns2) (fun i σ Hx => ∃ v5 v6 v7 v8 v9 v10 v11 v12 : Option V, σ = [some (.ref p), some (.ref l), some (.ref ln), some (.ref du), some (.ref o2), v5, v6, v7, v8, v9, v10, v11, v12] ∧ Same H7 Hx) ?_ ?_ ?_ ?_
    · exact ⟨_, _, _, _, _, _, _, _, rfl, Same.refl H7⟩
    · rintro i σ Hx _ ⟨v5, v6, v7, v8, v9, v10, v11, v12, rfl, sm⟩
      exact SqL.of (sm _ _ hlm)
    · rintro i x σ Hx hx ⟨v5, v6, v7, v8, v9, v10, v11, v12, rfl, sm⟩
      unfold intsV at hx
      rw [List.getElem?_map] at hx
      cases hmi : ns2[i]? with
      | none => rw [hmi] at hx; cases hx
      | some m =>
        rw [hmi] at hx
        cases hx
        have bw1 := bitsF_w u.w m
        have bl1 := bitsF_len U m
        refine ⟨_, rfl, o2, rfl, rfl, _, rfl, _, rfl, l, ts, U, m, rfl, HU7.same sm, u.v, fun r1 q1 G1 g1 A1 t1 => ⟨r1, q1, bitsF U m, rfl, g1, A1, bw1, by omega, fun a1 G2 w1 t2 => ?_⟩⟩
        have sA := (sm.trans t1).trans t2
        have D2A := D27.same sA
        obtain ⟨dy, fy, iy, _⟩ := D2A.ins
        refine ⟨.inr ⟨dy, fy, iy⟩, o2, a1, ks, _, rfl, D2A, w1, callk, by omega, fun G3 t3 => ?_⟩
        have sB := sA.trans t3
        refine ⟨_, rfl, _, rfl, ln, ms, m, rfl, sB _ _ hms7, by omega, fun G4 t4 => ⟨rfl, _, rfl, ?_⟩⟩
        have em : (ks.any fun c => decide (SubS c (lawSort (bitsF U m)))) = metN ms m := by rw [hks]; exact met_any u.v nums m
        rw [em, decide_eq_true rfl]
        exact iteF ⟨_, _, _, _, _, _, _, _, rfl, sB.trans t4⟩
    rintro σ Hc ⟨v5, v6, v7, v8, v9, v10, v11, v12, rfl, sm7⟩
    have D2c := D27.same sm7
    have HUc := HU7.same sm7
    have hmsc := sm7 _ _ hms7
    have e1c := sm7 _ _ e17
    have R1c : RwsAt Hc rd ks := R17.mono fun b xs e => sm7 _ _ e
    have Pc := P7.same sm7
    have k0c := k07.trans sm7.keep
    clear D27 HU7 hms7 e17 R17 P7 k07 P5
    refine ⟨_, _, _, _, _, _, _, _, _, _, _, l, ln, ts, U, ms, rfl, HUc, u, hmsc, h100, fun v6 Hd sd => ?_⟩
    have HUd := HUc.same sd
    have hmsd := sd _ _ hmsc
    -- the sets
    refine ⟨_, rfl, ln, rfl, ⟨_, SqL.of hmsd⟩, fun Z hZ => ?_⟩
    refine lc_list (K := K) (a := ln) (xs := intsV ms) (fun i Hx => ∃ os2 : List Addr, Hx Z = some (.lst (os2.map V.ref)) ∧ SetsAt P w C Hx os2 (numC U (ms.take i)) ∧ Same Hd Hx) ?_ ?_ ?_ ?_
    · exact ⟨[], upd_same, SetsAt.nil, (Same.refl Hd).put hZ⟩
    · rintro i Hx _ ⟨_, _, _, sx⟩
      exact SqL.of (sx _ _ hmsd)
    · rintro i y Hx hy ⟨os2, hZl, SZ, sx⟩
      unfold intsV at hy
      rw [List.getElem?_map] at hy
      cases hmi : ms[i]? with
      | none => rw [hmi] at hy; cases hy
      | some m =>
        rw [hmi] at hy
        cases hy
        have em : ms.take (i + 1) = ms.take i ++ [m] := by rw [List.take_add_one, hmi]; rfl
        refine ⟨rfl, rfl, _, rfl, _, rfl, l, ts, U, m, rfl, HUd.same sx, u.v, fun r1 qs H1 e1 A1 s1 => ⟨r1, qs, bitsF U m, rfl, e1, A1, bitsF_w u.w m, by have := bitsF_len U m; omega, fun r2 H2 aw s2 => ?_⟩⟩
        have hZ9 := s2 _ _ (s1 _ _ hZl)
        refine ⟨_, hZ9, ?_, os2 ++ [r2], by rw [upd_same, List.map_append]; rfl, ?_, ((sx.trans s1).trans s2).put hZ⟩
        · rw [List.length_map, SZ.1]; unfold numC; rw [List.length_map, List.length_take]; show _ < 16777216; omega
        · rw [em]
          unfold numC
          rw [List.map_append]
          exact ((SZ.same (s1.trans s2)).snoc aw).wrL hZ9
    rintro He ⟨os2, hZe, SZ, se⟩
    rw [intsV_len, List.take_length] at SZ
    obtain ⟨cs, hcs⟩ : ∃ cs, cs = numC U ms := ⟨_, rfl⟩
    have lcs : cs.length ≤ 100 := by rw [hcs]; unfold numC; rw [List.length_map]; exact h100
    have gcs : ∀ c ∈ cs, AllW c := fun c hc => by rw [hcs] at hc; exact ((Ov ms).g c hc).w
    have shc := rows_sh gcs
    rw [← hcs] at SZ
    refine ⟨_, rfl, Z, rfl, ⟨_, SqL.of hZe⟩, fun M hM => ?_⟩
    refine lc_list (K := K) (a := Z) (xs := os2.map V.ref) (fun i Hx => ∃ rs : List Addr, Hx M = some (.lst (rs.map V.ref)) ∧ RwsAt Hx rs (cs.take i) ∧ Same He Hx) ?_ ?_ ?_ ?_
    · exact ⟨[], upd_same, RwsAt.nil, (Same.refl He).put hM⟩
    · rintro i Hx _ ⟨_, _, _, sx⟩
      exact SqL.of (sx _ _ hZe)
    · rintro i y Hx hy ⟨rs, hNx, RA, sx⟩
      obtain ⟨o, ct, rfl, hc, ho, A0, hi⟩ := SZ.nth hy
      have et : cs.take (i + 1) = cs.take i ++ [ct] := by rw [List.take_add_one, hc]; rfl
      obtain ⟨dx, d', r, xs, qs, a1, a2, a3, a4, a5⟩ := A0.same sx
      refine ⟨rfl, _, rfl, o, C, dx, _, _, rfl, a1, YC.cl, YC.nR, fldA_rows _ _, _, hNx, ?_, rs ++ [r], by rw [upd_same, List.map_append]; rfl, ?_, sx.put hM⟩
      · rw [List.length_map, RA.1, List.length_take]; show _ < 16777216; omega
      · rw [et]
        exact (RA.snoc a4 a5).mono fun b xs e => (upd_ne (ne_of e hNx (by intro z; cases z))).trans e
    rintro Hf ⟨rh, eh, RAh, sf⟩
    rw [List.length_map, SZ.1, List.take_length] at RAh
    have SZf := SZ.same sf
    have hZf := sf _ _ hZe
    have scf := (sd.trans se).trans sf
    have D2f := D2c.same scf
    have okcs : OkB cs := by rw [hcs]; exact (Ov ms).b (by omega) (by unfold numC; rw [List.length_map]; omega)
    have i8c : InU 8 (leastC cs) := by rw [hcs]; exact i8 ms
    have lce : leastC cs = ks := by rw [hcs, hks]
    refine ⟨rfl, _, rfl, Z, os2, cs, rfl, .inr hZf, SZf, okcs, fun _ o5 Hg D5 sg => ?_, fun z => absurd i8c z⟩
    rw [lce] at D5
    have D2g := D2f.same sg
    obtain ⟨dx5, fs5, j5, _⟩ := D5.ins
    refine ⟨_, rfl, o5, dx5, fs5, rfl, j5, ⟨.ref D, D2g.ty Y.cl O, by simp [PySem.W.notFirst]⟩, o5, .ref o2, ks, rfl, D5, gks, .inl ⟨o2, ks, rfl, D2g, gks, fun Hh sh => ⟨_, rfl, _, rfl, ?_⟩⟩⟩
    rw [decide_eq_true rfl]
    refine iteF ?_
    have sfh := sg.trans sh
    have hZh := sfh _ _ hZf
    refine ⟨rfl, _, rfl, Z, _, rfl, .inl ⟨SqL.of hZh, fun tz htz => ?_⟩⟩
    have sz : Same Hh (upd Hh tz (.tup (os2.map V.ref))) := (Same.refl Hh).put htz
    have ez : (upd Hh tz (.tup (os2.map V.ref))) tz = some (.tup (os2.map V.ref)) := upd_same
    generalize upd Hh tz (.tup (os2.map V.ref)) = Hi at sz ez ⊢
    refine ⟨tz, os2, cs, rfl, .inl ez, SZf.same (sfh.trans sz), okcs, fun _ o6 Hj D6 sj => ?_, fun z => absurd i8c z⟩
    rw [lce] at D6
    have sfj := (sfh.trans sz).trans sj
    have D2j := D2f.same sfj
    obtain ⟨dx6, fs6, j6, _⟩ := D6.ins
    refine ⟨_, rfl, o6, dx6, fs6, rfl, j6, ⟨.ref D, D2j.ty Y.cl O, by simp [PySem.W.notFirst]⟩, o6, .ref o2, ks, rfl, D6, gks, .inl ⟨o2, ks, rfl, D2j, gks, fun Hk sk => ⟨_, rfl, _, rfl, ?_⟩⟩⟩
    rw [decide_eq_true rfl]
    refine iteF ?_
    have sfk := sfj.trans sk
    have hZk := sfk _ _ hZf
    have SZk := SZf.same sfk
    have ehk := sfk _ _ eh
    have RAk : RwsAt Hk rh cs := RAh.mono fun b xs e => sfk _ _ e
    have D2k := D2f.same sfk
    have sck := scf.trans sfk
    clear SZ SZf hZf hZe D2f D5 D6 D2g D2j j5 j6 RAh eh sz ez
    refine ⟨_, rfl, Z, rfl, ⟨_, SqL.of hZk⟩, fun M2 hM2 => ?_⟩
    refine lc_list (K := K) (a := Z) (xs := os2.map V.ref) (fun i Hx => ∃ rs : List Addr, Hx M2 = some (.lst (rs.map V.ref)) ∧ RwsAt Hx rs (cs.take i) ∧ Same Hk Hx) ?_ ?_ ?_ ?_
    · exact ⟨[], upd_same, RwsAt.nil, (Same.refl Hk).put hM2⟩
    · rintro i Hx _ ⟨_, _, _, sx⟩
      exact SqL.of (sx _ _ hZk)
    · rintro i y Hx hy ⟨rs, hNx, RA, sx⟩
      obtain ⟨o, ct, rfl, hc, ho, A0, hi⟩ := SZk.nth hy
      have et : cs.take (i + 1) = cs.take i ++ [ct] := by rw [List.take_add_one, hc]; rfl
      obtain ⟨dx, d', r, xs, qs, a1, a2, a3, a4, a5⟩ := A0.same sx
      refine ⟨rfl, _, rfl, o, C, dx, _, _, rfl, a1, YC.cl, YC.nR, fldA_rows _ _, _, hNx, ?_, rs ++ [r], by rw [upd_same, List.map_append]; rfl, ?_, sx.put hM2⟩
      · rw [List.length_map, RA.1, List.length_take]; show _ < 16777216; omega
      · rw [et]
        exact (RA.snoc a4 a5).mono fun b xs e => (upd_ne (ne_of e hNx (by intro z; cases z))).trans e
    rintro Hl ⟨r2, e2, RA2, sl⟩
    rw [List.length_map, SZk.1, List.take_length] at RA2
    refine ⟨_, rfl, rowsD cs, rowsD cs, rowsL_dp e2 RA2, rowsL_dp (sl _ _ ehk) (RAk.mono fun b xs e => sl _ _ e), shc, shc, _, rfl, ?_⟩
    rw [rows_eqv, decide_eq_true rfl]
    refine iteF ?_
    have scl := sck.trans sl
    have HUl := HUc.same scl
    have hmsl := scl _ _ hmsc
    have D2l := D2c.same scl
    have e1l := scl _ _ e1c
    have R1l : RwsAt Hl rd ks := R1c.mono fun b xs e => scl _ _ e
    clear SZk hZk RAk ehk RA2 e2 D2k
    -- turned
    refine ⟨_, rfl, _, rfl, ln, _, rfl, .inl (SqL.of hmsl), _, rfl, by omega, by rw [intsV_len]; omega, fun N hN => ?_⟩
    rw [intsV_len]
    refine lc_range (lo := 0) (n := ms.length) (fun i Hx => Hx N = some (.lst (intsV ((List.range i).map fun k => ms.getD (ms.length - 1 - k) 0))) ∧ Same Hl Hx) ?_ ?_ ?_
    · exact ⟨upd_same, (Same.refl Hl).put hN⟩
    · rintro i Hx hi ⟨hNx, sx⟩
      rw [Int.zero_add]
      have hj : ms.length - 1 - i < ms.length := by omega
      have hmj : ms[ms.length - 1 - i]? = some (ms.getD (ms.length - 1 - i) 0) := by rw [List.getD_eq_getElem?_getD, List.getElem?_eq_getElem hj]; rfl
      have hxj : (intsV ms)[ms.length - 1 - i]? = some (V.int ((ms.getD (ms.length - 1 - i) 0 : Nat) : Int)) := by unfold intsV; rw [List.getElem?_map, hmj]; rfl
      have hix : atI (intsV ms) ((((intsV ms).length : Nat) : Int) - 1 - ((i : Nat) : Int)) = some (V.int ((ms.getD (ms.length - 1 - i) 0 : Nat) : Int)) := by
        rw [intsV_len, show ((ms.length : Nat) : Int) - 1 - ((i : Nat) : Int) = ((ms.length - 1 - i : Nat) : Int) from by omega]
        exact atI_nat (j := ms.length - 1 - i) hxj
      have hmx := sx _ _ hmsl
      refine ⟨rfl, _, rfl, _, rfl, ln, _, rfl, .inl (SqL.of hmx), _, _, rfl, rfl, _, rfl, _, _, rfl, rfl, ln, _, _, _, rfl, rfl, SqL.of hmx, hix, _, hNx, ?_, ?_, sx.put hN⟩
      · rw [intsV_len, List.length_map, List.length_range]; show _ < 16777216; omega
      · rw [upd_same, List.range_succ, List.map_append]
        show some (HO.lst (_ ++ [V.int _])) = some (HO.lst (intsV (_ ++ [_])))
        rw [intsV_snoc]
    rintro Hm ⟨hNm, sm9⟩
    have hNm : Hm N = some (.lst (intsV (turnN ms))) := hNm
    have lt : (turnN ms).length ≤ 100 := by unfold turnN; rw [List.length_map, List.length_range]; exact h100
    refine ⟨l, N, ts, U, turnN ms, rfl, HUl.same sm9, u.v, hNm, lt, fun _ o7 Hn D7 sn => ?_, fun z => absurd (i8 _) z⟩
    rw [turn_least u.w, ← hks] at D7
    have sln := sm9.trans sn
    -- less
    refine ⟨_, rfl, _, rfl, _, rfl, ln, _, rfl, SqL.of (sln _ _ hmsl), fun w1 hw1 => ?_⟩
    rw [show (1 : Int) = ((1 : Nat) : Int) from rfl, cut_fromN, show (intsV ms).drop 1 = intsV (ms.drop 1) from by unfold intsV; rw [List.map_drop]]
    have so : Same Hn (upd Hn w1 (.lst (intsV (ms.drop 1)))) := (Same.refl Hn).put hw1
    have eo : (upd Hn w1 (.lst (intsV (ms.drop 1)))) w1 = some (.lst (intsV (ms.drop 1))) := upd_same
    generalize upd Hn w1 (.lst (intsV (ms.drop 1))) = Ho at so eo ⊢
    have ld : (ms.drop 1).length ≤ 100 := by rw [List.length_drop]; omega
    have nd : Nums U (ms.drop 1) := fun m hm => nums m (List.mem_of_mem_drop hm)
    refine ⟨l, w1, ts, U, ms.drop 1, rfl, HUl.same (sln.trans so), u.v, eo, ld, fun _ o8 Hp D8 sp => ?_, fun z => absurd (i8 _) z⟩
    obtain ⟨k2, hk2⟩ : ∃ ks, ks = leastC (numC U (ms.drop 1)) := ⟨_, rfl⟩
    have gk2 : ∀ c ∈ k2, AllW c := by rw [hk2]; exact gw _
    rw [← hk2] at D8
    have slp := (sln.trans so).trans sp
    have D2p := D2l.same slp
    have D7p := D7.same (so.trans sp)
    obtain ⟨dx2, fs2, j2, _⟩ := D2p.ins
    refine ⟨_, rfl, _, rfl, o2, dx2, fs2, rfl, j2, ⟨.ref D, D7p.ty Y.cl O, by simp [PySem.W.notFirst]⟩, o2, .ref o7, ks, rfl, D2p, gks, .inl ⟨o7, ks, rfl, D7p, gks, fun Hq sq => ⟨_, rfl, _, rfl, ?_⟩⟩⟩
    rw [decide_eq_true rfl]
    refine iteT ?_
    have D2q := D2p.same sq
    have D8q := D8.same sq
    obtain ⟨dx3, fs3, j3, _⟩ := D2q.ins
    refine ⟨_, rfl, _, rfl, o2, dx3, fs3, rfl, j3, ⟨.ref D, D8q.ty Y.cl O, by simp [PySem.W.notFirst]⟩, o2, .ref o8, ks, rfl, D2q, gks, .inl ⟨o8, k2, rfl, D8q, gk2, fun Hr sr => ⟨_, rfl, ?_⟩⟩⟩
    have slr := (slp.trans sq).trans sr
    refine ⟨_, rfl, _, rfl, _, rfl, _, rfl, ln, _, rfl, SqL.of (slr _ _ hmsl), fun w2 hw2 => ?_⟩
    rw [cut_fromN, show (intsV ms).drop 1 = intsV (ms.drop 1) from by unfold intsV; rw [List.map_drop]]
    have ss : Same Hr (upd Hr w2 (.lst (intsV (ms.drop 1)))) := (Same.refl Hr).put hw2
    have es : (upd Hr w2 (.lst (intsV (ms.drop 1)))) w2 = some (.lst (intsV (ms.drop 1))) := upd_same
    generalize upd Hr w2 (.lst (intsV (ms.drop 1))) = Hs at ss es ⊢
    refine ⟨l, w2, ts, U, ms.drop 1, rfl, HUl.same (slr.trans ss), u.v, es, ld, nd, fun d2 rd2 Ht et Rt _ st => ?_⟩
    rw [← hk2] at Rt
    have slt := (slr.trans ss).trans st
    refine ⟨rowsD ks, rowsD k2, rowsL_dp (slt _ _ e1l) (R1l.mono fun b xs e => slt _ _ e), rowsL_dp et Rt, shk, rows_sh gk2, ?_⟩
    rw [rows_eqv]
    refine ⟨rfl, _, rfl, ?_⟩
    rw [decide_eq_true rfl]
    refine iteT ?_
    have D2t := D2l.same slt
    obtain ⟨dx4, fs4, j4, _⟩ := D2t.ins
    refine ⟨_, rfl, _, rfl, o2, dx4, fs4, rfl, j4, ⟨.type "list", .base (.lst (slt _ _ e1l)), nf_ty (l := ["list", "object"]) (by decide +kernel)⟩, o2, .ref du, ks, rfl, D2t, gks, .inr ⟨du, _, rfl, slt _ _ e1l, ⟨_, rfl, _, rfl, ?_⟩⟩⟩
    have scend := scl.trans slt
    exact k Ht (k0c.trans scend.keep) (Pc.same scend)
end
end K2
end
section
set_option Elab.async false
set_option maxRecDepth 100000
set_option linter.all false
/-! the law -/
namespace K2
open PySem PySem.W PySem.Calls L2 LfX PySem.Spec PyProof.Rows
abbrev nLawK : List Str := ["_law_script", "_law_pen_here", "_law_none", "_law_turn", "_law_acts_here", "_law_numbers_here", "_law_many", "_law_great", "_law_some", "_law_used", "_law_s", "_law_heard", "_law_k", "_law_one"]
def spSeV : Sp := fun vs H Q _ => ∃ (p c l : Addr) (ns : List Int) (n m : Nat) (ts : List Addr) (U : ASet), vs = [.ref p, .ref l, .int m] ∧ Pen H p c ns n ∧ n + m ≤ 99990 ∧ m ≤ 100 ∧ l ≠ p ∧ UAt H l ts U ∧ U.length ≤ 16 ∧
  ∀ (r : Addr) (ms : List Nat) (H' : Hp), H' r = some (.lst (intsV ms)) → ms.length = m → Nums U ms → r ≠ p → Keep p H H' → Pen H' p c ns (n + m) → Q (.ref r) H'
theorem leastC_nil : leastC ([] : List ASet) = [] := by
  have := least_n []
  exact List.length_eq_zero_iff.mp (by simpa using this)
theorem leastC_one (c : ASet) : leastC [c] = [c] := by
  have e : sortC [c] = [c] := List.perm_singleton.mp (sortC_perm [c])
  show keepAll (sortC [c]) = _
  rw [e]
  rfl
theorem kW_of {k : Nat} {c : Nat} (h : (("abcdefghi" : Str).cps.toList)[k]? = some c) : kW k = ("k" : Str) ++ ⟨#[c]⟩ := by
  unfold kW
  rw [h]
  rfl
theorem letters9 : (("abcdefghi" : Str).cps.toList).length = 9 := by decide +kernel
theorem u9_take (k : Nat) : (List.range (k + 1)).map kA = (List.range k).map kA ++ [kA k] := by rw [List.range_succ, List.map_append]; rfl
section
variable {P : Program} {w : World} {K : PySem.W.Frag} {mg : Str → Option Value} {base : Heap} {C D : Addr}
theorem scLawK : FnScope nLawK ["_law_script"] (defScope sLaw) := ⟨rfl, rfl, rfl, by decide +kernel, rfl, by decide +kernel, by decide +kernel⟩
section
variable {f : Addr} {fd : FuncData}
theorem ok_seV {fD : Addr} {fdD : FuncData} (F : Fun K "_law_sets" "_law_sets" sSe f fd) (T : Bi mg) (DR : Df K mg "_law_draw" sDraw fD fdD ["_law_pen_here", "_law_many"]) (GD : FnOk P w K mg base CX0 1 fD fdD ["_law_pen_here", "_law_many"] spDraw) : FnOk P w K mg base CX0 2 f fd ["_law_pen_here", "_law_acts_here", "_law_many"] spSeV := by
  refine F.ok scSe (fun vs H Q E h => ?_) (fun cdv A outer s H vs Q E hr h => ?_)
  · obtain ⟨p, c, l, ns, n, m, ts, U, rfl, _⟩ := h
    rfl
  · obtain ⟨p, c, l, ns, n, m, ts, U, rfl, P0, hn, hm, nl, HU, l8, k⟩ := h
    have hr1 : Room 1 _ := hr
    have p8 : 2 ^ U.length ≤ 65536 := Nat.pow_le_pow_right (by decide) l8
    refine ⟨_, (pss_one (ps_ret (pe_lc (own := [("_law_k", 3)]) (g := gName 3) (tt := tYes) (te := tCall spDraw [] E0 (tCons (tVar 0) (tCons (tOp (rI CPow fun i j => V.int (i * 2 ^ j.toNat)) (tC (V.int 1)) (tCB (fun xs H Q => ∃ p ys, xs = [V.ref p] ∧ (SqL K H p ys ∨ SqT K H p ys) ∧ Q (.int (ys.length : Nat)) H) (tCons (tVar 1) tNil))) tNil))) rfl scSe.nd (pi_range1 (by rfl) T.range (pa_cons (pv 2) pa_nil)) (blkOk_by (N := nSe) (sc := defScope sSe) (by decide +kernel)) (fun _ _ _ _ _ => pg_name (i := 3) scSe.nd rfl (Or.inl rfl)) (fun _ _ _ _ _ => pts_nil)
      (fun s1 H1 C1 cl1 fp1 => ?el0)))), ?_⟩
    case el0 => exact pe_call GD hr1 (by rfl) DR.m DR.F.kp DR.b .nil pass0 (pa_cons (pv 0) (pa_cons (pe_op op_shl pe_int (pe_callB call_len_seq (by rfl) T.len PySem.boot_len (pa_cons (pv 1) pa_nil))) pa_nil))
    refine ⟨_, rfl, _, rfl, by omega, by omega, fun L hL => ?_⟩
    have nL : L ≠ p := (P0.pne hL).symm
    have tl : (ts.map V.ref).length = U.length := by rw [List.length_map, HU.2.1]
    refine lc_range (lo := 0) (n := m) (fun i Hc => ∃ ms : List Nat, Hc L = some (.lst (intsV ms)) ∧ ms.length = i ∧ Nums U ms ∧ Keep p H Hc ∧ Pen Hc p c ns (n + i)) ?_ ?_ ?_
    · exact ⟨[], upd_same, rfl, fun m hm => by simp at hm, (Keep.refl p H).new hL, P0.new hL⟩
    · rintro i Hc hi ⟨ms, hLl, ml, nu, kc, Pc⟩
      refine ⟨rfl, _, rfl, _, rfl, l, _, rfl, .inl (SqL.of (kc _ _ HU.1 nl)), _, _, rfl, rfl, ⟨by omega, by omega, by decide⟩, p, c, ns, n + i, _, rfl, Pc, by omega, ?_, ?_, fun v H' v0 v1 k' P' => ?_⟩
      · rw [one_shl]; exact Int.natCast_pos.mpr (Nat.two_pow_pos _)
      · rw [one_shl, tl]; exact Int.lt_of_le_of_lt (Int.ofNat_le.mpr p8) (by decide)
      rw [one_shl, tl] at v1
      obtain ⟨j, rfl⟩ : ∃ j : Nat, v = (j : Int) := ⟨v.toNat, (Int.toNat_of_nonneg v0).symm⟩
      have hL' := k' _ _ hLl nL
      have cL : c ≠ L := P0.cne hL
      refine ⟨_, hL', ?_, ms ++ [j], by rw [upd_same, intsV_snoc], by rw [List.length_append, ml]; rfl, fun m hm => ?_, fun b o hb nb => ?_, ?_⟩
      · rw [intsV_len]; show _ < 16777216; omega
      · rcases List.mem_append.mp hm with hm | hm
        · exact nu m hm
        · rw [List.mem_singleton.mp hm]; exact Int.ofNat_lt.mp v1
      · by_cases e : b = L
        · rw [e, hL] at hb; cases hb
        · rw [upd_ne e]
          exact k' _ _ (kc _ _ hb nb) nb
      · exact (P'.upd' nL.symm cL).mono (by omega)
    · rintro Hc ⟨ms, hLl, ml, nu, kc, Pc⟩
      exact k L ms Hc hLl ml nu nL kc Pc
end
set_option maxHeartbeats 4000000 in
theorem ok_lawK {f fPn fD fUn fSe fKp fLN fAs fDz fDc fDl pM fM pN fN pA fA : Addr} {mc md : Value} {fd fdPn fdD fdUn fdSe fdKp fdLN fdAs fdDz fdDc fdDl fdM fdN fdA : FuncData} (F : Fun K "law" "law" sLaw f fd) (T : Bi mg) (YC : TxA K mg C) (Y : TxD K mg D) (O : OwnA K D)
    (PN : Df K mg "_law_pen" sPen fPn fdPn ["_law_script"]) (GPn : FnOk P w K mg base CX0 1 fPn fdPn ["_law_script"] (spPen K))
    (DR : Df K mg "_law_draw" sDraw fD fdD ["_law_pen_here", "_law_many"]) (GD : FnOk P w K mg base CX0 1 fD fdD ["_law_pen_here", "_law_many"] spDraw)
    (UN : Df K mg "_law_universe" sUn fUn fdUn ["_law_pen_here", "_law_many"]) (GUn : FnOk P w K mg base CX0 3 fUn fdUn ["_law_pen_here", "_law_many"] spUn)
    (SE : Df K mg "_law_sets" sSe fSe fdSe ["_law_pen_here", "_law_acts_here", "_law_many"]) (GSe : FnOk P w K mg base CX0 2 fSe fdSe ["_law_pen_here", "_law_acts_here", "_law_many"] spSeV)
    (KP : Df K mg "_law_kept" sKp fKp fdKp ["_law_pen_here", "_law_acts_here", "_law_numbers_here"]) (GKp : FnOk P w K mg base CX0 13 fKp fdKp ["_law_pen_here", "_law_acts_here", "_law_numbers_here"] spKp)
    (LN : Df K mg "_law_least" sLN fLN fdLN ["_law_numbers_here"]) (GLN : FnOk P w K mg base CX0 1 fLN fdLN ["_law_numbers_here"] spLN)
    (AS : Df K mg "_law_asked" sAs fAs fdAs ["_law_acts_here", "_law_numbers_here"]) (GAs : FnOk P w K mg base CX0 12 fAs fdAs ["_law_acts_here", "_law_numbers_here"] (spAs P w C D))
    (DZ : Df K mg "_law_due" sDz fDz fdDz ["_law_acts_here", "_law_numbers_here"]) (GDz : FnOk P w K mg base CX0 5 fDz fdDz ["_law_acts_here", "_law_numbers_here"] spDz)
    (cR : ClX.CRead K C mc) (cM : ClX.CMet K C mc "made" pM fM) (GM : FnOk P w K mg base CX0 6 fM fdM ["cls", "rows"] (spMdA P w C)) (bM : Binds K fdM ["cls", "rows"] [])
    (cDc : StX.CallO K D fDc) (GDc : FnOk P w K mg base CX0 5 fDc fdDc ["self", "acts"] (spDc P w C D)) (bDc : Binds K fdDc ["self", "acts"] [])
    (GDl : FnOk P w K mg base CX0 1 fDl fdDl ["self"] (spDl P w C D)) (bDl : Binds K fdDl ["self"] []) (hDl : PySem.W.findIn K (.ref D) "__len__" = some (some (.ref fDl))) (hDlf : PySem.W.isFn K (.ref fDl) = true)
    (dR : ClX.CRead K D md) (sN : SMet K D md "never" pN fN) (GDn : FnOk P w K mg base CX0 10 fN fdN [] (spD0 P w C D [])) (bN : Binds K fdN [] []) (sA : SMet K D md "always" pA fA) (GDa : FnOk P w K mg base CX0 10 fA fdA [] (spD0 P w C D [[]])) (bA : Binds K fdA [] []) : FnG P w K mg base 14 f fd ["_law_script"] (spLaw K) := by
  refine okG F scLawK (fun vs H Q E h => ?_) (fun cdv A outer s H vs Q E hr gu h => ?_)
  · obtain ⟨a, ns, rfl, _⟩ := h
    rfl
  · obtain ⟨a, ns, rfl, hS, hl63, kQ⟩ := h
    have hr13 : Room 13 _ := hr
    have hr12 : Room 12 _ := hr.mono (by decide)
    have hr10 : Room 10 _ := hr.mono (by decide)
    have hr6 : Room 6 _ := hr.mono (by decide)
    have hr5 : Room 5 _ := hr.mono (by decide)
    have hr3 : Room 3 _ := hr.mono (by decide)
    have hr2 : Room 2 _ := hr.mono (by decide)
    have hr1 : Room 1 _ := hr.mono (by decide)
    refine ⟨_, (pss_cons (ps_set (i := 1) scLawK.nd rfl (Or.inl rfl) (pe_call GPn hr1 (by rfl) PN.m PN.F.kp PN.b .nil pass0 (pa_cons (pv 0) pa_nil)))
      (pss_cons (ps_set (i := 2) scLawK.nd rfl (Or.inl rfl) (ClX.pe_cmeth (pe_glob (v := .ref C) rfl YC.mgC rfl) cR cM (GM.raw bM .nil) hr6 pass0 (pa_cons (pe_lst pa_nil) pa_nil)))
      (pss_cons (ps_if (PW.pt (pw_or (pt_cmpR op_ne (pe_callB (call_lenO GDl bDl pass0 hr2 hDl hDlf) (by rfl) T.len (by decide +kernel) (pa_cons (pe_smeth0 (pe_glob (v := .ref D) rfl Y.mgD rfl) dR sN GDn bN hr10 pass0) pa_nil)) pe_int (nomark _))
          (pw_or (pt_val (StX.pe_callO (pe_smeth0 (pe_glob (v := .ref D) rfl Y.mgD rfl) dR sN GDn bN hr10 pass0) cDc (GDc.raw bDc .nil) hr5 pass0 (pa_cons (pv 2) pa_nil)))
          (pw_or (pt_not (pt_val (StX.pe_callO (pe_smeth0 (pe_glob (v := .ref D) rfl Y.mgD rfl) dR sA GDa bA hr10 pass0) cDc (GDc.raw bDc .nil) hr5 pass0 (pa_cons (pv 2) pa_nil))))
          (pw_or1 (pt_cmpR op_ne (pe_callB (call_lenO GDl bDl pass0 hr2 hDl hDlf) (by rfl) T.len (by decide +kernel) (pa_cons (pe_smeth0 (pe_glob (v := .ref D) rfl Y.mgD rfl) dR sA GDa bA hr10 pass0) pa_nil)) pe_int (nomark _)))))))
        (pss_one (ps_ret pe_bl)) pss_nil)
      (pss_cons (ps_for PassesOwn.never rfl (pi_range1 rfl T.range (pa_cons pe_int pa_nil)) (pg_name (i := 3) scLawK.nd rfl (Or.inl rfl))
        (pss_cons (ps_set (i := 4) scLawK.nd rfl (Or.inl rfl) (pe_call GUn hr3 (by rfl) UN.m UN.F.kp UN.b .nil pass0 (pa_cons (pv 1) (pa_cons (pe_ix ix_list (pe_lst (pa_cons pe_int (pa_cons pe_int (pa_cons pe_int (pa_cons pe_int (pa_cons pe_int (pa_cons pe_int pa_nil))))))) (pe_call GD hr1 (by rfl) DR.m DR.F.kp DR.b .nil pass0 (pa_cons (pv 1) (pa_cons pe_int pa_nil))) (fun _ _ => rfl)) pa_nil))))
        (pss_cons (ps_set (i := 5) scLawK.nd rfl (Or.inl rfl) (pe_call GSe hr2 (by rfl) SE.m SE.F.kp SE.b .nil pass0 (pa_cons (pv 1) (pa_cons (pv 4) (pa_cons (pe_ix ix_list (pe_lst (pa_cons pe_int (pa_cons pe_int (pa_cons pe_int (pa_cons pe_int (pa_cons pe_int (pa_cons pe_int pa_nil))))))) (pe_call GD hr1 (by rfl) DR.m DR.F.kp DR.b .nil pass0 (pa_cons (pv 1) (pa_cons pe_int pa_nil))) (fun _ _ => rfl)) pa_nil)))))
        (pss_cons (ps_if (pt_not (pt_val (pe_call GKp hr13 (by rfl) KP.m KP.F.kp KP.b .nil pass0 (pa_cons (pv 1) (pa_cons (pv 4) (pa_cons (pv 5) pa_nil))))))
          (pss_one (ps_ret pe_bl)) pss_nil)
        (pss_cons (ps_setLc (i := 6) (own := [("_law_k", 12)]) (g := gName 12) (tt := tYes) (te := tTup (tCons (tC (.str "a")) (tCons (tC .non) (tCons (tOp (fun x y H Q => ∃ i j, x = .str i ∧ y = .str j ∧ i.length + j.length ≤ sizeLine ∧ Q (.str (i ++ j)) H) (tC (.str "k")) (tOp rIxS (tC (.str "abcdefghi")) (tVar 12))) tNil)))) rfl scLawK.nd rfl rfl (sw_true rfl rfl rfl (by decide +kernel)) (pi_range1 rfl T.range (pa_cons pe_int pa_nil)) (blkOk_by (N := nLawK) (sc := defScope sLaw) (by decide +kernel)) (fun _ _ _ _ _ => pg_name (i := 12) scLawK.nd rfl (Or.inl rfl)) (fun _ _ _ _ _ => pts_nil) (fun s1 H1 C1 cl1 fp1 => ?el7))
        (pss_cons (ps_set (i := 7) scLawK.nd rfl (Or.inl rfl) (pe_ix ix_list (pe_lst (pa_cons pe_int (pa_cons pe_int (pa_cons (pe_op op_add pe_int (pe_op op_mul pe_int (pe_call GD hr1 (by rfl) DR.m DR.F.kp DR.b .nil pass0 (pa_cons (pv 1) (pa_cons pe_int pa_nil))))) pa_nil)))) (pe_call GD hr1 (by rfl) DR.m DR.F.kp DR.b .nil pass0 (pa_cons (pv 1) (pa_cons pe_int pa_nil))) (fun _ _ => rfl)))
        (pss_cons (ps_set (i := 8) scLawK.nd rfl (Or.inl rfl) (pe_op op_cat (pe_lst (pa_cons (pv 7) (pa_cons (pe_op op_add pe_int (pe_call GD hr1 (by rfl) DR.m DR.F.kp DR.b .nil pass0 (pa_cons (pv 1) (pa_cons pe_int pa_nil)))) pa_nil))) (pe_call GSe hr2 (by rfl) SE.m SE.F.kp SE.b .nil pass0 (pa_cons (pv 1) (pa_cons (pv 6) (pa_cons (pe_call GD hr1 (by rfl) DR.m DR.F.kp DR.b .nil pass0 (pa_cons (pv 1) (pa_cons pe_int pa_nil))) pa_nil))))))
        (pss_cons (ps_set (i := 9) scLawK.nd rfl (Or.inl rfl) pe_int)
        (pss_cons (ps_for PassesOwn.never rfl (pi_list (pe_call GLN hr1 (by rfl) LN.m LN.F.kp LN.b .nil pass0 (pa_cons (pv 8) pa_nil))) (pg_name (i := 10) scLawK.nd rfl (Or.inl rfl))
          (pss_one (ps_set (i := 9) scLawK.nd rfl (Or.inl rfl) (pe_op op_or (pv 9) (pv 10)))))
        (pss_cons (ps_set (i := 11) scLawK.nd rfl (Or.inl rfl) (pe_call GAs hr12 (by rfl) AS.m AS.F.kp AS.b .nil pass0 (pa_cons (pv 6) (pa_cons (pv 8) pa_nil))))
        (pss_cons (ps_if (PW.pt (pw_and (pt_cmpR op_eq (pv 9) pe_int (nomark _)) (pw_and1 (pt_cmpR (op_neD hr.units) (pv 11) (pe_tup (pa_cons pe_str (pa_cons pe_int pa_nil))) (nomark _)))))
          (pss_one (ps_ret pe_bl)) pss_nil)
        (pss_cons (ps_if (PW.pt (pw_and (pt_cmpR op_ne (pv 9) pe_int (nomark _)) (pw_and1 (pt_not (pt_val (pe_callB call_isi (by rfl) T.isinstance (by decide +kernel) (pa_cons (pv 11) (pa_cons (pe_glob (v := .ref D) rfl Y.mgD rfl) pa_nil))))))))
          (pss_one (ps_ret pe_bl)) pss_nil)
        (pss_one (ps_if (PW.pt (pw_and (pt_cmpR op_ne (pv 9) pe_int (nomark _)) (pw_and1 (pt_cmpR (op_neD hr.units) (pe_lc (own := [("_law_one", 13)]) (g := gName 13) (tt := tYes) (te := tFld K (tVar 13) "rows") rfl scLawK.nd (pi_list (pe_callTy call_list_of (by rfl) T.list (by decide +kernel) (pa_cons (pe_fld (pv 11) rfl) pa_nil))) (blkOk_by (N := nLawK) (sc := defScope sLaw) (by decide +kernel)) (fun _ _ _ _ _ => pg_name (i := 13) scLawK.nd rfl (Or.inl rfl)) (fun _ _ _ _ _ => pts_nil) (fun s1 H1 C1 cl1 fp1 => ?el1)) (pe_call GDz hr5 (by rfl) DZ.m DZ.F.kp DZ.b .nil pass0 (pa_cons (pv 6) (pa_cons (pv 8) pa_nil))) (nomark _)))))
          (pss_one (ps_ret pe_bl)) pss_nil))))))))))))))
      (pss_one (ps_ret pe_bl)))))), ?_⟩
    case el7 => exact pe_tup (pa_cons pe_str (pa_cons pe_non (pa_cons (pe_op op_add_str pe_str (pe_ix ix_str pe_str (pv 12) (fun _ _ => rfl))) pa_nil)))
    case el1 => exact pe_fld (pv 13) rfl
    refine ⟨_, rfl, a, ns, rfl, hS, hl63, fun p c H1 P1 s1 => ?_⟩
    refine ⟨rfl, Nat.zero_le _, fun L hL => ?_⟩
    have s2 : Same H1 (upd H1 L (.lst [])) := (Same.refl H1).put hL
    have e2 : (upd H1 L (.lst [])) L = some (.lst (([] : List Addr).map V.ref)) := upd_same
    generalize upd H1 L (.lst []) = H2 at s2 e2 ⊢
    refine ⟨L, [], [], rfl, e2, ⟨rfl, fun j q a h => by simp at h⟩, fun _ h => by simp at h, Nat.zero_le _, fun a0 H3 w0 s3 => ?_⟩
    have P3 := P1.same (s2.trans s3)
    clear P1 s1 s2 e2
    -- never, always
    refine ⟨rfl, rfl, fun n1 Ha Da sa => ?_⟩
    rw [leastC_nil] at Da
    obtain ⟨dx1, fs1, i1, _⟩ := Da.ins
    refine ⟨n1, dx1, fs1, rfl, i1, n1, [], rfl, Da, 0, rfl, by decide, rfl, _, rfl, ?_⟩
    rw [show decide (V.int ((0 : Nat) : Int) = V.int 0) = true from decide_eq_true rfl]
    refine iteF ?_
    refine ⟨rfl, rfl, fun n2 Hb Db sb => ?_⟩
    rw [leastC_nil] at Db
    obtain ⟨dx2, fs2, i2, _⟩ := Db.ins
    refine ⟨n2, rfl, _, rfl, .inr ⟨dx2, fs2, i2⟩, n2, a0, [], _, rfl, Db, w0.same (sa.trans sb), fun c h => by simp at h, Nat.zero_le _, fun Hc sc => ?_⟩
    refine ⟨_, rfl, iteF ?_⟩
    refine ⟨rfl, rfl, fun n3 Hd Dd sd => ?_⟩
    rw [leastC_one] at Dd
    obtain ⟨dx3, fs3, i3, _⟩ := Dd.ins
    have s03 := ((sa.trans sb).trans sc).trans sd
    refine ⟨n3, rfl, _, rfl, .inr ⟨dx3, fs3, i3⟩, n3, a0, [[]], _, rfl, Dd, w0.same s03, fun c h => ?_, by show 1 ≤ 10000; decide, fun He se => ?_⟩
    · rw [List.mem_singleton.mp h]
      exact ⟨fun _ h => by simp at h, Nat.zero_le _⟩
    refine ⟨_, rfl, ?_⟩
    rw [show (([[]] : List ASet).any fun c => decide (SubS c (lawSort []))) = true from by
      rw [List.any_cons, decide_eq_true (show SubS [] (lawSort []) from fun _ h => by simp at h)]; rfl]
    refine iteF ?_
    refine ⟨rfl, rfl, fun n4 Hf Df sf => ?_⟩
    rw [leastC_one] at Df
    obtain ⟨dx4, fs4, i4, _⟩ := Df.ins
    refine ⟨n4, dx4, fs4, rfl, i4, n4, [[]], rfl, Df, 1, rfl, by decide, rfl, _, rfl, ?_⟩
    rw [show decide (V.int ((1 : Nat) : Int) = V.int 1) = true from decide_eq_true rfl]
    refine iteF ?_
    have Pf := P3.same ((s03.trans se).trans sf)
    clear Da Db Dd Df i1 i2 i3 i4 sa sb sc sd se sf s03 P3 w0
    refine ⟨2, rfl, by decide, by decide, for_range (lo := 0) (n := 2) (fun i σ Hc => ∃ v3 v4 v5 v6 v7 v8 v9 v10 v11 v12 v13 : Option V, σ = [some (.ref a), some (.ref p), some (.ref a0), v3, v4, v5, v6, v7, v8, v9, v10, v11, v12, v13] ∧ Pen Hc p c ns (1000 * i)) ?_ ?_ ?_⟩
    · exact ⟨_, _, _, _, _, _, _, _, _, _, _, rfl, Pf⟩
    · rintro i σ Hc hi ⟨v3, v4, v5, v6, v7, v8, v9, v10, v11, v12, v13, rfl, Pc⟩
      generalize hN : 1000 * i = n at Pc
      have hn : n ≤ 1000 := by omega
      refine ⟨_, rfl, (by show 6 ≤ sizeLine; decide), fun l6 hl6 => ?_⟩
      obtain ⟨zs, hzs⟩ : ∃ zs : List V, zs = [V.int 1, .int 2, .int 4, .int 6, .int 8, .int 8] := ⟨_, rfl⟩
      rw [← hzs]
      have sa : Same Hc (upd Hc l6 (.lst zs)) := (Same.refl Hc).put hl6
      have ga : (upd Hc l6 (.lst zs)) l6 = some (.lst zs) := upd_same
      have na : l6 ≠ p := (Pc.pne hl6).symm
      have Pa := Pc.same sa
      generalize upd Hc l6 (.lst zs) = Ha at sa ga Pa ⊢
      refine ⟨_, rfl, p, c, ns, n, 6, rfl, Pa, by omega, by decide, by decide, fun dv Hb d0 d1 kb Pb => ?_⟩
      obtain ⟨j, rfl⟩ : ∃ j : Nat, dv = (j : Int) := ⟨dv.toNat, (Int.toNat_of_nonneg d0).symm⟩
      obtain ⟨m, hm, m1, m8⟩ : ∃ m : Nat, zs[j]? = some (.int (m : Int)) ∧ 1 ≤ m ∧ m ≤ 8 := by
        rw [hzs]
        exact pick6 (a := 1) (b := 2) (c := 4) (d := 6) (e := 8) (g := 8) (by decide) (by omega)
      refine ⟨l6, _, _, _, rfl, rfl, SqL.of (kb _ _ ga na), atI_nat (j := j) hm, ?_⟩
      refine ⟨p, c, ns, n + 1, m, rfl, Pb, by omega, m1, m8, fun ul ts U Hd HU u une uW nul kd Pd => ?_⟩
      have ul8 := u.l
      refine ⟨_, rfl, _, rfl, (by show 6 ≤ sizeLine; decide), fun l7 hl7 => ?_⟩
      obtain ⟨ys, hys⟩ : ∃ ys : List V, ys = [V.int 0, .int 1, .int 2, .int 4, .int 8, .int 14] := ⟨_, rfl⟩
      rw [← hys]
      have se : Same Hd (upd Hd l7 (.lst ys)) := (Same.refl Hd).put hl7
      have ge : (upd Hd l7 (.lst ys)) l7 = some (.lst ys) := upd_same
      have ne : l7 ≠ p := (Pd.pne hl7).symm
      have Pe := Pd.same se
      have HUe := HU.same se
      generalize upd Hd l7 (.lst ys) = He at se ge Pe HUe ⊢
      refine ⟨_, rfl, p, c, ns, n + 1 + 280, 6, rfl, Pe, by omega, by decide, by decide, fun dv2 Hf d20 d21 kf Pf => ?_⟩
      obtain ⟨j2, rfl⟩ : ∃ j : Nat, dv2 = (j : Int) := ⟨dv2.toNat, (Int.toNat_of_nonneg d20).symm⟩
      obtain ⟨m2, hm2, _, m14⟩ : ∃ m : Nat, ys[j2]? = some (.int (m : Int)) ∧ 0 ≤ m ∧ m ≤ 14 := by
        rw [hys]
        exact pick6 (a := 0) (b := 1) (c := 2) (d := 4) (e := 8) (g := 14) (by decide) (by omega)
      have HUf := HUe.keep Pe kf nul
      refine ⟨l7, _, _, _, rfl, rfl, SqL.of (kf _ _ ge ne), atI_nat (j := j2) hm2, ?_⟩
      refine ⟨p, c, ul, ns, n + 1 + 280 + 1, m2, ts, U, rfl, Pf, by omega, by omega, nul, HUf, by omega, fun nl ms Hg hnl msl nums nnl kg Pg => ?_⟩
      have HUg := HUf.keep Pf kg nul
      refine ⟨_, rfl, _, rfl, _, rfl, p, c, ul, nl, ns, _, ts, U, ms, rfl, Pg, by omega, nul, nnl, HUg, u, hnl, by omega, nums, fun Hh kh Ph => ⟨_, rfl, iteF ?_⟩⟩
      clear HU HUe HUf HUg Pa Pb Pd Pe Pf Pg hnl ga ge sa se kb kd kf kg kh Pc
      generalize hN2 : n + 1 + 280 + 1 + m2 + 30 = n2 at Ph
      -- nine acts
      refine ⟨_, rfl, by decide, by decide, fun LM hLM => ?_⟩
      have nLM : LM ≠ p := (Ph.pne hLM).symm
      refine lc_range (lo := 0) (n := 9) (fun j Hd => ∃ qs : List Addr, Hd LM = some (.lst (qs.map V.ref)) ∧ ActsAt Hd qs ((List.range j).map kA) ∧ Same Hh Hd) ?_ ?_ ?_
      · exact ⟨[], upd_same, ⟨rfl, fun j q a h => by simp at h⟩, (Same.refl Hh).put hLM⟩
      · rintro j Hd hj ⟨qs, hLd, A0, sd⟩
        rw [Int.zero_add]
        obtain ⟨ch, hch⟩ : ∃ ch, (("abcdefghi" : Str).cps.toList)[j]? = some ch := ⟨_, List.getElem?_eq_getElem (by rw [letters9]; exact hj)⟩
        refine ⟨rfl, _, rfl, _, _, ch, rfl, rfl, by decide +kernel, atI_nat (j := j) hch, _, _, rfl, rfl, by show 1 + 1 ≤ 16777216; decide, (by show 3 ≤ sizeLine; decide), fun t ht => ?_⟩
        rw [← kW_of hch]
        have st : Same Hd (upd Hd t (.tup (actVs (kA j)))) := (Same.refl Hd).put ht
        have et : (upd Hd t (.tup (actVs (kA j)))) t = some (.tup (actVs (kA j))) := upd_same
        generalize hHe : upd Hd t (.tup (actVs (kA j))) = He at st et
        rw [show upd Hd t (.tup [V.str "a", V.non, V.str (kW j)]) = He from hHe]
        have hLe := st _ _ hLd
        refine ⟨_, hLe, ?_, qs ++ [t], by rw [upd_same, List.map_append]; rfl, ?_, (sd.trans st).put hLM⟩
        · rw [List.length_map, A0.1, List.length_map, List.length_range]; show _ < 16777216; omega
        · rw [u9_take]
          refine ActsAt.mono (H := He) (acts_snoc (A0.mono fun b xs e => st _ _ e) et) fun b xs e => ?_
          rw [upd_ne (ne_of e hLe (by intro z; cases z))]
          exact e
      rintro Hi ⟨qs, hLi, Ai, si⟩
      have hU9 : UAt Hi LM qs U9 := ⟨hLi, Ai⟩
      have Pi := Ph.same si
      clear Ai hLi si Ph hLM
      -- great
      refine ⟨_, rfl, p, c, ns, n2, 128, rfl, Pi, by omega, by decide, by decide, fun dv3 Hj d30 d31 kj Pj => ?_⟩
      obtain ⟨j3, rfl⟩ : ∃ j : Nat, dv3 = (j : Int) := ⟨dv3.toNat, (Int.toNat_of_nonneg d30).symm⟩
      have U9j := hU9.keep Pi kj nLM
      refine ⟨_, _, rfl, rfl, .inl ⟨by decide, by omega⟩, _, _, rfl, rfl, (by show 3 ≤ sizeLine; decide), fun lg hlg => ?_⟩
      obtain ⟨gs, hgs⟩ : ∃ gs : List V, gs = [V.int 511, .int 510, .int (3 + 4 * ((j3 : Nat) : Int))] := ⟨_, rfl⟩
      show _
      have sg : Same Hj (upd Hj lg (.lst gs)) := (Same.refl Hj).put hlg
      have gg : (upd Hj lg (.lst gs)) lg = some (.lst gs) := upd_same
      have ng : lg ≠ p := (Pj.pne hlg).symm
      have Pk := Pj.same sg
      have U9k := U9j.same sg
      generalize hHk : upd Hj lg (.lst gs) = Hk at sg gg Pk U9k
      rw [show upd Hj lg (.lst [V.int 511, .int 510, .int (3 + 4 * ((j3 : Nat) : Int))]) = Hk from by rw [← hgs]; exact hHk]
      refine ⟨_, rfl, p, c, ns, n2 + 1, 3, rfl, Pk, by omega, by decide, by decide, fun dv4 Hl d40 d41 kl Pl => ?_⟩
      obtain ⟨j4, rfl⟩ : ∃ j : Nat, dv4 = (j : Int) := ⟨dv4.toNat, (Int.toNat_of_nonneg d40).symm⟩
      have U9l := U9k.keep Pk kl nLM
      obtain ⟨gN, hgN, g512⟩ : ∃ gN : Nat, gs[j4]? = some (.int (gN : Int)) ∧ gN < 512 := by
        rw [hgs]
        match j4, d41 with
        | 0, _ => exact ⟨511, rfl, by omega⟩
        | 1, _ => exact ⟨510, rfl, by omega⟩
        | 2, _ => exact ⟨3 + 4 * j3, by push_cast; rfl, by omega⟩
        | k + 3, h => exact absurd h (by omega)
      refine ⟨lg, _, _, _, rfl, rfl, SqL.of (kl _ _ gg ng), atI_nat (j := j4) hgN, ?_⟩
      clear U9j U9k hU9 Pi Pj Pk gg sg kj
      -- some
      refine ⟨_, rfl, _, rfl, p, c, ns, n2 + 1 + 1, 256, rfl, Pl, by omega, by decide, by decide, fun dv5 Hm d50 d51 km Pm => ?_⟩
      obtain ⟨j5, rfl⟩ : ∃ j : Nat, dv5 = (j : Int) := ⟨dv5.toNat, (Int.toNat_of_nonneg d50).symm⟩
      have U9m := U9l.keep Pl km nLM
      refine ⟨_, _, rfl, rfl, (by show 2 ≤ sizeLine; decide), fun l2 hl2 => ?_⟩
      have ev2 : [V.int ((gN : Nat) : Int), V.int (256 + ((j5 : Nat) : Int))] = intsV [gN, 256 + j5] := by
        show _ = [V.int ((gN : Nat) : Int), V.int ((256 + j5 : Nat) : Int)]
        rw [show ((256 + j5 : Nat) : Int) = 256 + ((j5 : Nat) : Int) from by push_cast; rfl]
      have sn : Same Hm (upd Hm l2 (.lst (intsV [gN, 256 + j5]))) := (Same.refl Hm).put hl2
      have gn : (upd Hm l2 (.lst (intsV [gN, 256 + j5]))) l2 = some (.lst (intsV [gN, 256 + j5])) := upd_same
      have n2p : l2 ≠ p := (Pm.pne hl2).symm
      have Pn := Pm.same sn
      have U9n := U9m.same sn
      generalize hHn : upd Hm l2 (.lst (intsV [gN, 256 + j5])) = Hn at sn gn Pn U9n
      rw [show upd Hm l2 (.lst [V.int ((gN : Nat) : Int), V.int (256 + ((j5 : Nat) : Int))]) = Hn from by rw [ev2]; exact hHn]
      refine ⟨_, rfl, _, rfl, _, rfl, p, c, ns, n2 + 1 + 1 + 1, 3, rfl, Pn, by omega, by decide, by decide, fun dv6 Ho d60 d61 ko Po => ?_⟩
      obtain ⟨j6, rfl⟩ : ∃ j : Nat, dv6 = (j : Int) := ⟨dv6.toNat, (Int.toNat_of_nonneg d60).symm⟩
      have U9o := U9n.keep Pn ko nLM
      refine ⟨p, c, LM, ns, n2 + 1 + 1 + 1 + 1, j6, qs, U9, rfl, Po, by omega, by omega, nLM, U9o, by rw [u9_len]; decide, fun lss ss Hp hlss ssl nss _ kp Pp => ?_⟩
      have U9p := U9o.keep Po kp nLM
      have gp := kp _ _ (ko _ _ gn n2p) n2p
      refine ⟨l2, lss, _, _, rfl, rfl, gp, hlss, ?_, fun lq hlq => ?_⟩
      · rw [intsV_len, intsV_len, ssl]; show 2 + _ ≤ 16777216; omega
      rw [← intsV_app]
      obtain ⟨mz, hmz⟩ : ∃ mz, mz = [gN, 256 + j5] ++ ss := ⟨_, rfl⟩
      rw [← hmz]
      have lmz : mz.length ≤ 100 := by rw [hmz, List.length_append, ssl]; show 2 + _ ≤ 100; omega
      have nmz : Nums U9 mz := fun x hx => by
        rw [hmz] at hx
        rw [u9_len]
        rcases List.mem_append.mp hx with h | h
        · simp only [List.mem_cons, List.not_mem_nil, or_false] at h
          rcases h with rfl | rfl
          · exact g512
          · show 256 + j5 < 512; omega
        · have := nss x h
          rwa [u9_len] at this
      have sq : Same Hp (upd Hp lq (.lst (intsV mz))) := (Same.refl Hp).put hlq
      have eq0 : (upd Hp lq (.lst (intsV mz))) lq = some (.lst (intsV mz)) := upd_same
      have Pq := Pp.same sq
      have U9q := U9p.same sq
      generalize upd Hp lq (.lst (intsV mz)) = Hq at sq eq0 Pq U9q ⊢
      clear U9l U9m U9n U9o U9p Pl Pm Pn Po Pp gn gp hlss
      -- all that is used
      refine ⟨_, rfl, lq, mz, rfl, eq0, lmz, fun lr Hr er _ sr => ?_⟩
      refine ⟨lr, rfl, ⟨_, SqL.of er⟩, ?_⟩
      refine for_list (K := K) (a := lr) (xs := intsV (leastN mz)) (fun i σ Hx => ∃ v3 v10 v11 v12 v13 : Option V, σ = [some (.ref a), some (.ref p), some (.ref a0), v3, some (.ref ul), some (.ref nl), some (.ref LM), some (.int ((gN : Nat) : Int)), some (.ref lq), some (.int (((((leastN mz).take i).foldl (· ||| ·) 0 : Nat)) : Int)), v10, v11, v12, v13] ∧ Same Hr Hx) ?_ ?_ ?_ ?_
      · exact ⟨_, _, _, _, _, rfl, Same.refl Hr⟩
      · rintro i σ Hx _ ⟨v3, v10, v11, v12, v13, rfl, sx⟩
        exact SqL.of (sx _ _ er)
      · rintro i x σ Hx hx ⟨v3, v10, v11, v12, v13, rfl, sx⟩
        unfold intsV at hx
        rw [List.getElem?_map] at hx
        cases hsi : (leastN mz)[i]? with
        | none => rw [hsi] at hx; cases hx
        | some s0 =>
          rw [hsi] at hx
          cases hx
          have et : (leastN mz).take (i + 1) = (leastN mz).take i ++ [s0] := by rw [List.take_add_one, hsi]; rfl
          refine ⟨_, rfl, _, rfl, _, _, rfl, rfl, ?_⟩
          refine ⟨v3, some (.int ((s0 : Nat) : Int)), v11, v12, v13, ?_, sx⟩
          rw [et, List.foldl_append]
          show _ = [some (V.ref a), some (.ref p), some (.ref a0), v3, some (.ref ul), some (.ref nl), some (.ref LM), some (.int ((gN : Nat) : Int)), some (.ref lq), some (.int ((((((leastN mz).take i).foldl (· ||| ·) 0) ||| s0 : Nat)) : Int)), some (.int ((s0 : Nat) : Int)), v11, v12, v13]
          rw [← bor_nat]
          rfl
      rintro σ Hs ⟨v3, v10, v11, v12, v13, rfl, ss'⟩
      rw [intsV_len, List.take_length]
      have ssq := sr.trans ss'
      have U9s := U9q.same ssq
      have eqs := ssq _ _ eq0
      have Ps := Pq.same ssq
      have eu : ((leastN mz).foldl (· ||| ·) 0) = usedN mz := rfl
      rw [eu]
      obtain ⟨uN, huN⟩ : ∃ uN, uN = usedN mz := ⟨_, rfl⟩
      rw [← huN]
      have e511 : ∀ b : Bool, (decide (uN = 511)) = b → decide (V.int ((uN : Nat) : Int) = V.int 511) = b := fun b h => by
        rw [← h]
        exact decide_eq_decide.mpr ⟨fun z => by have := V.int.inj z; omega, fun z => by rw [z]; rfl⟩
      clear eq0 er U9q Pq sr ss'
      refine ⟨_, rfl, _, rfl, LM, lq, qs, U9, mz, rfl, U9s, u9, eqs, lmz, fun i8 od Ht Dt st => ?_, fun nin td Ht et st => ?_⟩
      · -- demands
        have ne5 : uN ≠ 511 := fun e => used_wide nmz (by rw [← huN]; exact e) i8
        have d5 := e511 false (decide_eq_false ne5)
        refine ⟨_, rfl, rfl, _, rfl, ?_⟩
        rw [d5]
        refine iteF (iteF ?_)
        refine ⟨_, rfl, rfl, _, rfl, ?_⟩
        show if (!decide (V.int ((uN : Nat) : Int) = V.int 511)) = true then _ else _
        rw [d5]
        refine iteT ⟨_, rfl, _, _, _, _, true, rfl, .own D, Dt.ty Y.cl O, kit_own D, _, rfl, iteF ?_⟩
        refine ⟨_, rfl, rfl, _, rfl, ?_⟩
        show if (!decide (V.int ((uN : Nat) : Int) = V.int 511)) = true then _ else _
        rw [d5]
        obtain ⟨ks, hks⟩ : ∃ ks, ks = leastC (numC U9 mz) := ⟨_, rfl⟩
        have gks : ∀ c ∈ ks, AllW c := fun c hc => by rw [hks] at hc; exact ((over9 mz).least.g c hc).w
        have lks : ks.length ≤ 100 := by
          have := num_len U9 mz
          rw [hks]; omega
        rw [← hks] at Dt
        obtain ⟨dx0, r0, os0, h1, h2, h3⟩ := id Dt
        refine iteT ⟨_, rfl, od, D, dx0, _, _, rfl, h1, Y.cl, Y.nS, fldD_sets _, r0, _, rfl, .inr (SqT.of h2), fun q0 hq0 => ?_⟩
        have s3 : Same Ht (upd Ht q0 (.lst (os0.map V.ref))) := (Same.refl Ht).put hq0
        have e3 : (upd Ht q0 (.lst (os0.map V.ref))) q0 = some (.lst (os0.map V.ref)) := upd_same
        generalize upd Ht q0 (.lst (os0.map V.ref)) = H3 at s3 e3 ⊢
        have S3 := h3.same s3
        refine ⟨q0, rfl, ⟨_, SqL.of e3⟩, fun N hN => ?_⟩
        refine lc_list (K := K) (a := q0) (xs := os0.map V.ref) (fun i Hx => ∃ rs : List Addr, Hx N = some (.lst (rs.map V.ref)) ∧ RwsAt Hx rs (ks.take i) ∧ Same H3 Hx) ?_ ?_ ?_ ?_
        · exact ⟨[], upd_same, RwsAt.nil, (Same.refl H3).put hN⟩
        · rintro i Hx _ ⟨_, _, _, sx⟩
          exact SqL.of (sx _ _ e3)
        · rintro i y Hx hy ⟨rs, hNx, RA, sx⟩
          obtain ⟨o, ct, rfl, hc, ho, A0, hi⟩ := S3.nth hy
          have et : ks.take (i + 1) = ks.take i ++ [ct] := by rw [List.take_add_one, hc]; rfl
          obtain ⟨dx, d', r, xs, qs, a1, a2, a3, a4, a5⟩ := A0.same sx
          refine ⟨rfl, _, rfl, o, C, dx, _, _, rfl, a1, YC.cl, YC.nR, fldA_rows _ _, _, hNx, ?_, rs ++ [r], by rw [upd_same, List.map_append]; rfl, ?_, sx.put hN⟩
          · rw [List.length_map, RA.1, List.length_take]; show _ < 16777216; omega
          · rw [et]
            exact (RA.snoc a4 a5).mono fun b xs e => (upd_ne (ne_of e hNx (by intro z; cases z))).trans e
        rintro H4 ⟨r4, e4, RA4, s4⟩
        rw [List.length_map, S3.1, List.take_length] at RA4
        have st4 := (st.trans s3).trans s4
        refine ⟨_, rfl, _, rfl, LM, lq, qs, U9, mz, rfl, U9s.same st4, u9, st4 _ _ eqs, lmz, nmz, fun d2 rd2 H5 e5 R5 _ s5 => ?_⟩
        rw [← hks] at R5
        refine ⟨rowsD ks, rowsD ks, rowsL_dp (s5 _ _ e4) (RA4.mono fun b xs e => s5 _ _ e), rowsL_dp e5 R5, rows_sh gks, rows_sh gks, _, rfl, ?_⟩
        rw [rows_eqv, decide_eq_true rfl]
        refine iteF ?_
        exact ⟨_, _, _, _, _, _, _, _, _, _, _, rfl, (Ps.same (st4.trans s5)).mono (by omega)⟩
      · -- too many
        have e5 : uN = 511 := Classical.byContradiction fun ne => nin (used_few nmz (by rw [← huN]; exact ne))
        have d5 := e511 true (decide_eq_true e5)
        refine ⟨_, rfl, rfl, _, rfl, ?_⟩
        rw [d5]
        refine iteT ⟨_, rfl, (by show 2 ≤ sizeLine; decide), fun t2 ht2 => ?_⟩
        have s3 : Same Ht (upd Ht t2 (.tup [V.str "acts", V.int 8])) := (Same.refl Ht).put ht2
        have e3 : (upd Ht t2 (.tup [V.str "acts", V.int 8])) t2 = some (.tup [V.str "acts", V.int 8]) := upd_same
        generalize upd Ht t2 (.tup [V.str "acts", V.int 8]) = H3 at s3 e3 ⊢
        refine ⟨.tuple [.str "acts", .int 8], .tuple [.str "acts", .int 8], .tup (SqT.of (s3 _ _ et)) (.cons (.str _) (.cons (.int _) .nil)), .tup (SqT.of e3) (.cons (.str _) (.cons (.int _) .nil)), by decide +kernel, by decide +kernel, _, rfl, ?_⟩
        rw [show PyData.eqv (.tuple [.str "acts", .int 8]) (.tuple [.str "acts", .int 8]) = true from by decide +kernel]
        refine iteF ?_
        refine ⟨_, rfl, rfl, _, rfl, ?_⟩
        show if (!decide (V.int ((uN : Nat) : Int) = V.int 511)) = true then _ else _
        rw [d5]
        refine iteF (iteF ?_)
        refine ⟨_, rfl, rfl, _, rfl, ?_⟩
        show if (!decide (V.int ((uN : Nat) : Int) = V.int 511)) = true then _ else _
        rw [d5]
        refine iteF (iteF ?_)
        exact ⟨_, _, _, _, _, _, _, _, _, _, _, rfl, (Ps.same (st.trans s3)).mono (by omega)⟩
    · rintro σ Hc ⟨v3, v4, v5, v6, v7, v8, v9, v10, v11, v12, v13, rfl, Pc⟩
      exact kQ Hc
end
end K2
end
section
set_option Elab.async false
set_option maxRecDepth 100000
set_option linter.all false
/-! never, always -/
namespace K2
open PySem PySem.W PySem.Calls L2 LfX PySem.Spec PyProof.Rows
section
variable {P : Program} {w : World} {K : PySem.W.Frag} {mg : Str → Option Value} {base : Heap} {C D f : Addr} {fd : FuncData}
theorem ok_dn {fI : Addr} (F : Fun K "never" "Demands.never" sDn f fd) (Y : TxD K mg D) (M : Mk K D fI) (GI : FnR P w K mg base CX0 8 fI (spDiR P w C D)) : FnOk P w K mg base CX0 10 f fd [] (spD0 P w C D []) := by
  refine F.ok scDn (fun vs H Q E h => ?_) (fun cdv A outer s H vs Q E hr h => ?_)
  · obtain ⟨rfl, _⟩ := h
    rfl
  · obtain ⟨rfl, k⟩ := h
    have hr9 : Room 9 _ := hr
    refine ⟨_, (pss_one (ps_ret (pe_makeR0 M GI hr9 (by rfl) Y.mgD pass0))), ?_⟩
    exact initD SetsAt.nil okc_nil k
theorem ok_da {fI fJ : Addr} (F : Fun K "always" "Demands.always" sDa f fd) (Y : TxD K mg D) (M : Mk K D fI) (GI : FnR P w K mg base CX0 8 fI (spDiR P w C D)) (YC : TxA K mg C) (MC : Mk K C fJ) (GJ : FnR P w K mg base CX0 4 fJ (spInR P w C)) : FnOk P w K mg base CX0 10 f fd [] (spD0 P w C D [[]]) := by
  refine F.ok scDa (fun vs H Q E h => ?_) (fun cdv A outer s H vs Q E hr h => ?_)
  · obtain ⟨rfl, _⟩ := h
    rfl
  · obtain ⟨rfl, k⟩ := h
    have hr9 : Room 9 _ := hr
    have hr5 : Room 5 _ := hr.mono (by decide)
    refine ⟨_, (pss_one (ps_ret (StX.pe_makeR M GI hr9 (by rfl) Y.mgD pass0 (pa_cons (pe_makeR0 MC GJ hr5 (by rfl) YC.mgC pass0) pa_nil)))), ?_⟩
    refine fun r dx nr nd ne => initAw (as := []) (ts := []) ⟨rfl, fun j q a h => by simp at h⟩ (fun _ h => by simp at h) (Nat.zero_le _) r dx nr nd ne _ fun H1 aw s1 => ⟨rfl, ?_⟩
    exact initD (os := [r]) (cs := [[]]) (SetsAt.nil.snoc (os := []) (cs := []) aw) okc_one fun r2 H2 dw s2 => k r2 H2 dw (s1.trans s2)
end
end K2
end
section
set_option Elab.async false
set_option maxRecDepth 100000
set_option linter.all false
namespace K2
open PySem L2 PySem.Spec PyProof.Rows
section
variable {P : Program} {w : World} {K : PySem.W.Frag} {mg mb : Str → Option Value} {k : Nat} {fa a : Addr} {fd : FuncData} {x : Str} {s : Shared} {us : List Value} {ns : List Int}
/-- the call from the claim's own caller, told of any heap of which nothing but the script is tracked -/
theorem call_core {sp : Sp} {H : Hp} (kin : K.In s.heap) (gl : s.heap.Ns mainGlobals mg) (bl : s.heap.Ns builtinsNs mb) (bb : ∀ y : Str, y ≠ "__name__" → mb y = bootBuiltins y) (lim : s.heap.NoLimit) (gn : s.gens = #[])
    (ha : s.heap.get? a = some { cls := .type "list", data := .seq us.toArray }) (hr : Room k callerA) (F : ∀ base : Heap, K.In base → base.Ns mainGlobals mg → FnG P w K mg base k fa fd [x] sp) (bind : ∀ (z : Shared) (u : Value), BindsTo z fd ⟨[u], []⟩ [(x, u)])
    (only : Only H) (ok : HOk P w H s.heap) (lone : ∀ b, H b ≠ none → b = a) (apart : H a ≠ none → K.lookup a = none) (hsp : sp [.ref a] H (fun v _ => v = .bl true) fun _ _ _ => False) :
    codeAny (model P w) callerA (.call (.ref fa) ⟨[.ref a], []⟩) (fun r z => r = .ok (.ret (.bool true)) ∧ OldK s.heap z.heap ∧ z.os = s.os ∧ AllBare z.gens) s := by
  have un_dict : ∀ {b : Addr} {o : Obj} {es : Array DictEntry} {ep : Nat}, s.heap.get? b = some o → o.data = .dict es ep → H b = none := fun {b o es ep} e d => by
    by_cases q : H b = none
    · exact q
    · have := lone b q
      subst this
      rw [ha] at e
      cases e
      exact absurd (show Data.seq us.toArray _ = Data.dict es ep from d) (fun z => nomatch z)
  have ns2 : ∀ {b : Addr} {m : Str → Option Value}, s.heap.Ns b m → (hidT s.heap H).Ns b m := fun ⟨o, es, ep, e, d, r⟩ => ⟨o, es, ep, hidT_get e (un_dict e d), d, r⟩
  have kin2 : K.In (hidT s.heap H) := fun b o e => hidT_get (kin b o e) (by
    by_cases q : H b = none
    · exact q
    · have := lone b q
      subst this
      rw [apart q] at e
      cases e)
  have e0 : Env0 P w K mg (hidT s.heap H) callerA [] s H := ⟨rfl, ⟨kin2, ns2 gl, ⟨mb, ns2 bl, bb⟩, let ⟨mc, h1, h2⟩ := lim; ⟨mc, ns2 h1, h2⟩⟩, fun b o e => of_hidT e, Nat.le_of_eq (hidT_size _ _), trivial, fun b (hb : b ∈ ([] : List Addr)) => (List.not_mem_nil hb).elim, ok, .of_eq gn⟩
  refine codeAny_mono ((F _ kin2 (ns2 gl)).run callerA [] s H ⟨[.ref a], []⟩ [.ref a] [.ref a] _ _ hr rfl e0 (bind s (.ref a)) (.cons rfl .nil) hsp) fun r z h => ?_
  cases r with
  | error e => exact h.elim
  | ok fl =>
    cases fl with
    | next => exact h.elim
    | brk => exact h.elim
    | cont => exact h.elim
    | ret u =>
      obtain ⟨v, H2, os, bare, un, ok2, rv, q⟩ := h
      have q : v = .bl true := q
      subst q
      obtain rfl : u = Value.bool true := rv
      refine ⟨rfl, OldK.of_keep fun b o e => ?_, os, bare⟩
      rcases only b with z1 | ⟨ob, xs, z1⟩
      · exact un.keep b o e z1 (fun z : b ∈ ([] : List Addr) => (List.not_mem_nil z).elim) (fun z => (List.not_mem_nil z).elim)
      · obtain ⟨e1, _⟩ := ok b _ z1
        obtain ⟨e2, _⟩ := ok2 b _ (un.frzs b ob _ z1)
        rw [e] at e1
        cases e1
        exact e2
theorem law_callG (kin : K.In s.heap) (gl : s.heap.Ns mainGlobals mg) (bl : s.heap.Ns builtinsNs mb) (bb : ∀ y : Str, y ≠ "__name__" → mb y = bootBuiltins y) (lim : s.heap.NoLimit) (gn : s.gens = #[])
    (ha : s.heap.get? a = some { cls := .type "list", data := .seq us.toArray }) (hi : IntsAre us ns) (hl : ns.length ≤ 63) (hr : Room k callerA) (F : ∀ base : Heap, K.In base → base.Ns mainGlobals mg → FnG P w K mg base k fa fd [x] (spLaw K)) (bind : ∀ (z : Shared) (u : Value), BindsTo z fd ⟨[u], []⟩ [(x, u)]) :
    codeAny (model P w) callerA (.call (.ref fa) ⟨[.ref a], []⟩) (fun r z => r = .ok (.ret (.bool true)) ∧ OldK s.heap z.heap ∧ z.os = s.os ∧ AllBare z.gens) s := by
  have rv := vals_ints hi
  have ll := hi.length
  have pr : ∀ H : Hp, SqL K H a (ns.map V.int) → spLaw K [.ref a] H (fun v _ => v = .bl true) fun _ _ _ => False := fun H hS => ⟨a, ns, rfl, hS, hl, fun _ => rfl⟩
  cases hk : K.lookup a with
  | some o =>
    have e := kin a o hk
    rw [ha] at e
    cases e
    exact call_core (H := fun _ => none) kin gl bl bb lim gn ha hr F bind (fun _ => .inl rfl) (fun b u z => nomatch (show (none : Option HO) = some u from z)) (fun b z => absurd rfl z) (fun z => absurd rfl z)
      (pr _ (.inr ⟨_, us.toArray, _, hk, rfl, rfl, rfl, by rw [List.size_toArray, ll]; exact Nat.le_trans hl (by decide), by simpa using rv⟩))
  | none =>
    have at_ : ∀ b, (fun b => if b = a then some (HO.frz { cls := .type "list", data := .seq us.toArray } (.lst (ns.map V.int))) else none : Hp) b ≠ none → b = a := fun b z => by
      by_cases hb : b = a
      · exact hb
      · exact absurd (if_neg hb) z
    refine call_core (H := fun b => if b = a then some (HO.frz { cls := .type "list", data := .seq us.toArray } (.lst (ns.map V.int))) else none) kin gl bl bb lim gn ha hr F bind (fun b => ?_) (fun b u z => ?_) at_ (fun _ => hk)
      (pr _ (.inl (.inr ⟨{ cls := .type "list", data := .seq us.toArray }, if_pos rfl⟩)))
    · by_cases hb : b = a
      · exact .inr ⟨_, _, if_pos hb⟩
      · exact .inl (if_neg hb)
    · have hb : b = a := at_ b (by rw [z]; simp)
      subst hb
      have z2 := (if_pos rfl).symm.trans z
      cases z2
      exact ⟨ha, by rw [List.length_map]; exact Nat.le_trans hl (by decide), us, _, rv, ha⟩
end
theorem walk_ofG {l : PySem.W.OpenLaw} {q : Program} {loose : List Str} {XP : (Str → Option Value) → Heap → Prop} {YP : World → Heap → Prop} {d : DefRec} {K : Params → PySem.W.Frag} {k : Nat} {x : Str} (hn : l.most = some 63) (hdf : d.params.defaults = []) (hr : Room k callerA)
    (hY : ∀ (w : World) (h : Heap), YP w h → (K w.params).In h) (F : ∀ (w : World) (mg : Str → Option Value) (fa : Addr) (h : Heap), (K w.params).In h → h.Ns mainGlobals mg → mg d.name = some (.ref fa) →
      ∃ fd : FuncData, (∀ (z : Shared) (u : Value), BindsTo z fd ⟨[u], []⟩ [(x, u)]) ∧ ∀ base : Heap, (K w.params).In base → base.Ns mainGlobals mg → FnG l.prog w (K w.params) mg base k fa fd [x] (spLaw (K w.params))) :
    PySem.W.WalkO q loose XP YP l.row.toRowW d [] (fun f vs => PySem.call f vs) := by
  refine Att.attach_call hn hdf fun w s0 s1 mg mb fa o pm cd doc a vs ns G Y ho hd hcd hmg hobj hints hlen hg => ?_
  obtain ⟨fd, hb, hF⟩ := F w mg fa _ (hY w _ Y) G.T.g hmg
  exact law_callG (hY w _ Y) G.T.g G.T.b G.T.builtins G.T.nolimit hg hobj hints hlen hr hF hb
end K2
end
section
set_option Elab.async false
set_option maxRecDepth 100000
set_option linter.all false
namespace K2
open PySem L2 LfX
theorem kit_ref {K : PySem.W.Frag} {D C : Addr} {b : Bool} (ne : (D == C) = false) (c : PySem.W.isClsIn K C = true) (t : PySem.W.typeIn K (.ref C) = some (.type "type")) (s : PySem.W.subIn K (.ref D) (.ref C) = some b) : PySem.W.kitOne K (.ref D) (.ref C) = some b := by
  have q : PySem.W.kitCls K (.ref D) (.ref C) = some b := by
    show (if ((PySem.W.clsIn K C).isSome && PySem.W.typeIn K (.ref C) == some (.type "type")) = true then PySem.W.subIn K (.ref D) (.ref C) else none) = some b
    have c' : (PySem.W.clsIn K C).isSome = true := c
    rw [c', t, if_pos (by simp)]
    exact s
  unfold PySem.W.kitOne
  rw [if_neg ?_]
  · exact q
  · intro z
    have e : D = C := Value.ref.inj (beq_iff_eq.mp z)
    rw [e] at ne
    simp at ne
theorem kit_same {K : PySem.W.Frag} {D : Addr} : PySem.W.kitOne K (.ref D) (.ref D) = some true := by
  unfold PySem.W.kitOne
  rw [if_pos (by simp)]
theorem any_no {K : PySem.W.Frag} {t c : Value} {r : List Value} (h : PySem.W.kitOne K t c = some false) (k : PySem.W.kitAny K t r = some false) : PySem.W.kitAny K t (c :: r) = some false := by
  show (match PySem.W.kitOne K t c with | some true => some true | some false => PySem.W.kitAny K t r | none => none) = some false
  rw [h]
  exact k
theorem kit_no {K : PySem.W.Frag} {C : Addr} {T : String} {l : List String} (c : PySem.W.isClsIn K C = true) (t : PySem.W.typeIn K (.ref C) = some (.type "type")) (e : fastBuiltinMro T = some (l.map Value.type)) : PySem.W.kitOne K (.type T) (.ref C) = some false := by
  have q : PySem.W.kitCls K (.type T) (.ref C) = some false := by
    show (if ((PySem.W.clsIn K C).isSome && PySem.W.typeIn K (.ref C) == some (.type "type")) = true then PySem.W.subIn K (.type T) (.ref C) else none) = some false
    have c' : (PySem.W.clsIn K C).isSome = true := c
    rw [c', t, if_pos (by simp)]
    exact sub_ty e
  unfold PySem.W.kitOne
  rw [if_neg (by simp)]
  exact q
def chkS : List Str → List Value → Bool
  | [], [] => true
  | x :: xs, .str y _ :: us => decide (x = y) && chkS xs us
  | _, _ => false
theorem chk_vals : ∀ {xs : List Str} {us : List Value}, chkS xs us = true → Vals (xs.map V.str) us
  | [], [], _ => .nil
  | x :: xs, .str y t :: us, h => by
    have h2 := Bool.and_eq_true_iff.mp (show (decide (x = y) && chkS xs us) = true from h)
    have e := of_decide_eq_true h2.1
    subst e
    exact .cons ⟨t, rfl⟩ (chk_vals h2.2)

set_option maxHeartbeats 4000000 in
theorem all_mk {l : PySem.W.OpenLaw} {w : World} {K : PySem.W.Frag} {h : Heap} {mg : Str → Option Value} {fa C CD pM pN pV pW aR cL cT cA cR : Addr} {nm_ q_ N_ bs_ bm_ sn_ sub_ ab_ col_ dd_ k0_ k1_ k2_ k3_ k5_} {rest rest2 restN restA : List Value} {t1 t2 : Tok} {ddR : Option Addr} {itsR : Array Value} {nR2 : Nat} {slR : Array (Option Value)} (X : K.In h) (G : h.Ns mainGlobals mg) (hfa : mg "law" = some (.ref fa))
    {fIW fIA fAO fSQ fIO fLE fBO fMK fPN fD fWO fLA fUN fPA fNU fSE fDD fLS fME fPL fRW fDZ fAS fKP fLW fIN fMA fLN fCO fEQ fWI fTI fDA fDN fDI fDM fDC fDE fDL fDG : Addr} {odIW anIW odIA anIA odAO anAO odSQ anSQ odIO anIO odLE anLE odBO anBO odMK anMK odPN anPN odD anD odWO anWO odLA anLA odUN anUN odPA anPA odNU anNU odSE anSE odDD anDD odLS anLS odME anME odPL anPL odRW anRW odDZ anDZ odAS anAS odKP anKP odLW anLW odIN anIN odMA anMA odLN anLN odCO anCO odEQ anEQ odWI anWI odTI anTI odDA anDA odDN anDN odDI anDI odDM anDM odDC anDC odDE anDE odDL anDL odDG anDG : Option Addr} {slIW slIA slAO slSQ slIO slLE slBO slMK slPN slD slWO slLA slUN slPA slNU slSE slDD slLS slME slPL slRW slDZ slAS slKP slLW slIN slMA slLN slCO slEQ slWI slTI slDA slDN slDI slDM slDC slDE slDL slDG : Array (Option Value)} {ocIW kVIW dcIW pmIW cdIW ctIW ocIA kVIA dcIA pmIA cdIA ctIA ocAO kVAO dcAO pmAO cdAO ctAO ocSQ kVSQ dcSQ pmSQ cdSQ ctSQ ocIO kVIO dcIO pmIO cdIO ctIO ocLE kVLE dcLE pmLE cdLE ctLE ocBO kVBO dcBO pmBO cdBO ctBO ocMK kVMK dcMK pmMK cdMK ctMK ocPN kVPN dcPN pmPN cdPN ctPN ocD kVD dcD pmD cdD ctD ocWO kVWO dcWO pmWO cdWO ctWO ocLA kVLA dcLA pmLA cdLA ctLA ocUN kVUN dcUN pmUN cdUN ctUN ocPA kVPA dcPA pmPA cdPA ctPA ocNU kVNU dcNU pmNU cdNU ctNU ocSE kVSE dcSE pmSE cdSE ctSE ocDD kVDD dcDD pmDD cdDD ctDD ocLS kVLS dcLS pmLS cdLS ctLS ocME kVME dcME pmME cdME ctME ocPL kVPL dcPL pmPL cdPL ctPL ocRW kVRW dcRW pmRW cdRW ctRW ocDZ kVDZ dcDZ pmDZ cdDZ ctDZ ocAS kVAS dcAS pmAS cdAS ctAS ocKP kVKP dcKP pmKP cdKP ctKP ocLW kVLW dcLW pmLW cdLW ctLW ocIN kVIN dcIN pmIN cdIN ctIN ocMA kVMA dcMA pmMA cdMA ctMA ocLN kVLN dcLN pmLN cdLN ctLN ocCO kVCO dcCO pmCO cdCO ctCO ocEQ kVEQ dcEQ pmEQ cdEQ ctEQ ocWI kVWI dcWI pmWI cdWI ctWI ocTI kVTI dcTI pmTI cdTI ctTI ocDA kVDA dcDA pmDA cdDA ctDA ocDN kVDN dcDN pmDN cdDN ctDN ocDI kVDI dcDI pmDI cdDI ctDI ocDM kVDM dcDM pmDM cdDM ctDM ocDC kVDC dcDC pmDC cdDC ctDC ocDE kVDE dcDE pmDE cdDE ctDE ocDL kVDL dcDL pmDL cdDL ctDL ocDG kVDG dcDG pmDG cdDG ctDG : Value}
    (aIW : PySem.W.nsIn K mainGlobals "is_word" = some (some (.ref fIW)))
    (aIA : PySem.W.nsIn K mainGlobals "is_act" = some (some (.ref fIA)))
    (aAO : PySem.W.nsIn K mainGlobals "act_order" = some (some (.ref fAO)))
    (aSQ : PySem.W.nsIn K mainGlobals "_set_order" = some (some (.ref fSQ)))
    (aIO : PySem.W.nsIn K mainGlobals "in_order_of_sets" = some (some (.ref fIO)))
    (aLE : PySem.W.nsIn K mainGlobals "_least" = some (some (.ref fLE)))
    (aBO : PySem.W.nsIn K mainGlobals "_bits_of" = some (some (.ref fBO)))
    (aMK : PySem.W.nsIn K mainGlobals "_mask" = some (some (.ref fMK)))
    (aPN : PySem.W.nsIn K mainGlobals "_law_pen" = some (some (.ref fPN)))
    (aD : PySem.W.nsIn K mainGlobals "_law_draw" = some (some (.ref fD)))
    (aWO : PySem.W.nsIn K mainGlobals "_law_words" = some (some (.ref fWO)))
    (aLA : PySem.W.nsIn K mainGlobals "_law_acts" = some (some (.ref fLA)))
    (aUN : PySem.W.nsIn K mainGlobals "_law_universe" = some (some (.ref fUN)))
    (aPA : PySem.W.nsIn K mainGlobals "_law_part" = some (some (.ref fPA)))
    (aNU : PySem.W.nsIn K mainGlobals "_law_numbers" = some (some (.ref fNU)))
    (aSE : PySem.W.nsIn K mainGlobals "_law_sets" = some (some (.ref fSE)))
    (aDD : PySem.W.nsIn K mainGlobals "_law_demands" = some (some (.ref fDD)))
    (aLS : PySem.W.nsIn K mainGlobals "_law_least" = some (some (.ref fLS)))
    (aME : PySem.W.nsIn K mainGlobals "_law_met" = some (some (.ref fME)))
    (aPL : PySem.W.nsIn K mainGlobals "_law_place" = some (some (.ref fPL)))
    (aRW : PySem.W.nsIn K mainGlobals "_law_rows" = some (some (.ref fRW)))
    (aDZ : PySem.W.nsIn K mainGlobals "_law_due" = some (some (.ref fDZ)))
    (aAS : PySem.W.nsIn K mainGlobals "_law_asked" = some (some (.ref fAS)))
    (aKP : PySem.W.nsIn K mainGlobals "_law_kept" = some (some (.ref fKP)))
    (aLW : PySem.W.nsIn K mainGlobals "law" = some (some (.ref fLW)))
    (lIW : K.lookup fIW = some ⟨ocIW, odIW, .func (PySem.W.fnOf "is_word" "is_word" (defArgs sIsW) (defBody sIsW) (defScope sIsW) .none kVIW dcIW pmIW anIW cdIW ctIW), slIW⟩) (cIW : PySem.W.codeIn K cdIW "is_word" = true) (kIW : PySem.W.keepIn K (.ref fIW) = true)
    (lIA : K.lookup fIA = some ⟨ocIA, odIA, .func (PySem.W.fnOf "is_act" "is_act" (defArgs sIA) (defBody sIA) (defScope sIA) .none kVIA dcIA pmIA anIA cdIA ctIA), slIA⟩) (cIA : PySem.W.codeIn K cdIA "is_act" = true) (kIA : PySem.W.keepIn K (.ref fIA) = true)
    (lAO : K.lookup fAO = some ⟨ocAO, odAO, .func (PySem.W.fnOf "act_order" "act_order" (defArgs sAO) (defBody sAO) (defScope sAO) .none kVAO dcAO pmAO anAO cdAO ctAO), slAO⟩) (cAO : PySem.W.codeIn K cdAO "act_order" = true) (kAO : PySem.W.keepIn K (.ref fAO) = true)
    (lSQ : K.lookup fSQ = some ⟨ocSQ, odSQ, .func (PySem.W.fnOf "_set_order" "_set_order" (defArgs sSq) (defBody sSq) (defScope sSq) .none kVSQ dcSQ pmSQ anSQ cdSQ ctSQ), slSQ⟩) (cSQ : PySem.W.codeIn K cdSQ "_set_order" = true) (kSQ : PySem.W.keepIn K (.ref fSQ) = true)
    (lIO : K.lookup fIO = some ⟨ocIO, odIO, .func (PySem.W.fnOf "in_order_of_sets" "in_order_of_sets" (defArgs sIO) (defBody sIO) (defScope sIO) .none kVIO dcIO pmIO anIO cdIO ctIO), slIO⟩) (cIO : PySem.W.codeIn K cdIO "in_order_of_sets" = true) (kIO : PySem.W.keepIn K (.ref fIO) = true)
    (lLE : K.lookup fLE = some ⟨ocLE, odLE, .func (PySem.W.fnOf "_least" "_least" (defArgs sLe) (defBody sLe) (defScope sLe) .none kVLE dcLE pmLE anLE cdLE ctLE), slLE⟩) (cLE : PySem.W.codeIn K cdLE "_least" = true) (kLE : PySem.W.keepIn K (.ref fLE) = true)
    (lBO : K.lookup fBO = some ⟨ocBO, odBO, .func (PySem.W.fnOf "_bits_of" "_bits_of" (defArgs sBo) (defBody sBo) (defScope sBo) .none kVBO dcBO pmBO anBO cdBO ctBO), slBO⟩) (cBO : PySem.W.codeIn K cdBO "_bits_of" = true) (kBO : PySem.W.keepIn K (.ref fBO) = true)
    (lMK : K.lookup fMK = some ⟨ocMK, odMK, .func (PySem.W.fnOf "_mask" "_mask" (defArgs sMk) (defBody sMk) (defScope sMk) .none kVMK dcMK pmMK anMK cdMK ctMK), slMK⟩) (cMK : PySem.W.codeIn K cdMK "_mask" = true) (kMK : PySem.W.keepIn K (.ref fMK) = true)
    (lPN : K.lookup fPN = some ⟨ocPN, odPN, .func (PySem.W.fnOf "_law_pen" "_law_pen" (defArgs sPen) (defBody sPen) (defScope sPen) .none kVPN dcPN pmPN anPN cdPN ctPN), slPN⟩) (cPN : PySem.W.codeIn K cdPN "_law_pen" = true) (kPN : PySem.W.keepIn K (.ref fPN) = true)
    (lD : K.lookup fD = some ⟨ocD, odD, .func (PySem.W.fnOf "_law_draw" "_law_draw" (defArgs sDraw) (defBody sDraw) (defScope sDraw) .none kVD dcD pmD anD cdD ctD), slD⟩) (cD : PySem.W.codeIn K cdD "_law_draw" = true) (kD : PySem.W.keepIn K (.ref fD) = true)
    (lWO : K.lookup fWO = some ⟨ocWO, odWO, .func (PySem.W.fnOf "_law_words" "_law_words" (defArgs sWords) (defBody sWords) (defScope sWords) .none kVWO dcWO pmWO anWO cdWO ctWO), slWO⟩) (cWO : PySem.W.codeIn K cdWO "_law_words" = true) (kWO : PySem.W.keepIn K (.ref fWO) = true)
    (lLA : K.lookup fLA = some ⟨ocLA, odLA, .func (PySem.W.fnOf "_law_acts" "_law_acts" (defArgs sLa) (defBody sLa) (defScope sLa) .none kVLA dcLA pmLA anLA cdLA ctLA), slLA⟩) (cLA : PySem.W.codeIn K cdLA "_law_acts" = true) (kLA : PySem.W.keepIn K (.ref fLA) = true)
    (lUN : K.lookup fUN = some ⟨ocUN, odUN, .func (PySem.W.fnOf "_law_universe" "_law_universe" (defArgs sUn) (defBody sUn) (defScope sUn) .none kVUN dcUN pmUN anUN cdUN ctUN), slUN⟩) (cUN : PySem.W.codeIn K cdUN "_law_universe" = true) (kUN : PySem.W.keepIn K (.ref fUN) = true)
    (lPA : K.lookup fPA = some ⟨ocPA, odPA, .func (PySem.W.fnOf "_law_part" "_law_part" (defArgs sPa) (defBody sPa) (defScope sPa) .none kVPA dcPA pmPA anPA cdPA ctPA), slPA⟩) (cPA : PySem.W.codeIn K cdPA "_law_part" = true) (kPA : PySem.W.keepIn K (.ref fPA) = true)
    (lNU : K.lookup fNU = some ⟨ocNU, odNU, .func (PySem.W.fnOf "_law_numbers" "_law_numbers" (defArgs sNu) (defBody sNu) (defScope sNu) .none kVNU dcNU pmNU anNU cdNU ctNU), slNU⟩) (cNU : PySem.W.codeIn K cdNU "_law_numbers" = true) (kNU : PySem.W.keepIn K (.ref fNU) = true)
    (lSE : K.lookup fSE = some ⟨ocSE, odSE, .func (PySem.W.fnOf "_law_sets" "_law_sets" (defArgs sSe) (defBody sSe) (defScope sSe) .none kVSE dcSE pmSE anSE cdSE ctSE), slSE⟩) (cSE : PySem.W.codeIn K cdSE "_law_sets" = true) (kSE : PySem.W.keepIn K (.ref fSE) = true)
    (lDD : K.lookup fDD = some ⟨ocDD, odDD, .func (PySem.W.fnOf "_law_demands" "_law_demands" (defArgs sDd) (defBody sDd) (defScope sDd) .none kVDD dcDD pmDD anDD cdDD ctDD), slDD⟩) (cDD : PySem.W.codeIn K cdDD "_law_demands" = true) (kDD : PySem.W.keepIn K (.ref fDD) = true)
    (lLS : K.lookup fLS = some ⟨ocLS, odLS, .func (PySem.W.fnOf "_law_least" "_law_least" (defArgs sLN) (defBody sLN) (defScope sLN) .none kVLS dcLS pmLS anLS cdLS ctLS), slLS⟩) (cLS : PySem.W.codeIn K cdLS "_law_least" = true) (kLS : PySem.W.keepIn K (.ref fLS) = true)
    (lME : K.lookup fME = some ⟨ocME, odME, .func (PySem.W.fnOf "_law_met" "_law_met" (defArgs sMe) (defBody sMe) (defScope sMe) .none kVME dcME pmME anME cdME ctME), slME⟩) (cME : PySem.W.codeIn K cdME "_law_met" = true) (kME : PySem.W.keepIn K (.ref fME) = true)
    (lPL : K.lookup fPL = some ⟨ocPL, odPL, .func (PySem.W.fnOf "_law_place" "_law_place" (defArgs sPl) (defBody sPl) (defScope sPl) .none kVPL dcPL pmPL anPL cdPL ctPL), slPL⟩) (cPL : PySem.W.codeIn K cdPL "_law_place" = true) (kPL : PySem.W.keepIn K (.ref fPL) = true)
    (lRW : K.lookup fRW = some ⟨ocRW, odRW, .func (PySem.W.fnOf "_law_rows" "_law_rows" (defArgs sRw) (defBody sRw) (defScope sRw) .none kVRW dcRW pmRW anRW cdRW ctRW), slRW⟩) (cRW : PySem.W.codeIn K cdRW "_law_rows" = true) (kRW : PySem.W.keepIn K (.ref fRW) = true)
    (lDZ : K.lookup fDZ = some ⟨ocDZ, odDZ, .func (PySem.W.fnOf "_law_due" "_law_due" (defArgs sDz) (defBody sDz) (defScope sDz) .none kVDZ dcDZ pmDZ anDZ cdDZ ctDZ), slDZ⟩) (cDZ : PySem.W.codeIn K cdDZ "_law_due" = true) (kDZ : PySem.W.keepIn K (.ref fDZ) = true)
    (lAS : K.lookup fAS = some ⟨ocAS, odAS, .func (PySem.W.fnOf "_law_asked" "_law_asked" (defArgs sAs) (defBody sAs) (defScope sAs) .none kVAS dcAS pmAS anAS cdAS ctAS), slAS⟩) (cAS : PySem.W.codeIn K cdAS "_law_asked" = true) (kAS : PySem.W.keepIn K (.ref fAS) = true)
    (lKP : K.lookup fKP = some ⟨ocKP, odKP, .func (PySem.W.fnOf "_law_kept" "_law_kept" (defArgs sKp) (defBody sKp) (defScope sKp) .none kVKP dcKP pmKP anKP cdKP ctKP), slKP⟩) (cKP : PySem.W.codeIn K cdKP "_law_kept" = true) (kKP : PySem.W.keepIn K (.ref fKP) = true)
    (lLW : K.lookup fLW = some ⟨ocLW, odLW, .func (PySem.W.fnOf "law" "law" (defArgs sLaw) (defBody sLaw) (defScope sLaw) .none kVLW dcLW pmLW anLW cdLW ctLW), slLW⟩) (cLW : PySem.W.codeIn K cdLW "law" = true) (kLW : PySem.W.keepIn K (.ref fLW) = true)
    (lIN : K.lookup fIN = some ⟨ocIN, odIN, .func (PySem.W.fnOf "__init__" "Acts.__init__" (defArgs sIn) (defBody sIn) (defScope sIn) .none kVIN dcIN pmIN anIN cdIN ctIN), slIN⟩) (cIN : PySem.W.codeIn K cdIN "Acts.__init__" = true) (kIN : PySem.W.keepIn K (.ref fIN) = true)
    (lMA : K.lookup fMA = some ⟨ocMA, odMA, .func (PySem.W.fnOf "made" "Acts.made" (defArgs sMd) (defBody sMd) (defScope sMd) .none kVMA dcMA pmMA anMA cdMA ctMA), slMA⟩) (cMA : PySem.W.codeIn K cdMA "Acts.made" = true) (kMA : PySem.W.keepIn K (.ref fMA) = true)
    (lLN : K.lookup fLN = some ⟨ocLN, odLN, .func (PySem.W.fnOf "__len__" "Acts.__len__" (defArgs sLn) (defBody sLn) (defScope sLn) .none kVLN dcLN pmLN anLN cdLN ctLN), slLN⟩) (cLN : PySem.W.codeIn K cdLN "Acts.__len__" = true) (kLN : PySem.W.keepIn K (.ref fLN) = true)
    (lCO : K.lookup fCO = some ⟨ocCO, odCO, .func (PySem.W.fnOf "__contains__" "Acts.__contains__" (defArgs sCo) (defBody sCo) (defScope sCo) .none kVCO dcCO pmCO anCO cdCO ctCO), slCO⟩) (cCO : PySem.W.codeIn K cdCO "Acts.__contains__" = true) (kCO : PySem.W.keepIn K (.ref fCO) = true)
    (lEQ : K.lookup fEQ = some ⟨ocEQ, odEQ, .func (PySem.W.fnOf "__eq__" "Acts.__eq__" (defArgs sQe) (defBody sQe) (defScope sQe) .none kVEQ dcEQ pmEQ anEQ cdEQ ctEQ), slEQ⟩) (cEQ : PySem.W.codeIn K cdEQ "Acts.__eq__" = true) (kEQ : PySem.W.keepIn K (.ref fEQ) = true)
    (lWI : K.lookup fWI = some ⟨ocWI, odWI, .func (PySem.W.fnOf "within" "Acts.within" (defArgs sWi) (defBody sWi) (defScope sWi) .none kVWI dcWI pmWI anWI cdWI ctWI), slWI⟩) (cWI : PySem.W.codeIn K cdWI "Acts.within" = true) (kWI : PySem.W.keepIn K (.ref fWI) = true)
    (lTI : K.lookup fTI = some ⟨ocTI, odTI, .func (PySem.W.fnOf "__init__" "TooMany.__init__" (defArgs sTMI) (defBody sTMI) (defScope sTMI) .none kVTI dcTI pmTI anTI cdTI ctTI), slTI⟩) (cTI : PySem.W.codeIn K cdTI "TooMany.__init__" = true) (kTI : PySem.W.keepIn K (.ref fTI) = true)
    (lDA : K.lookup fDA = some ⟨ocDA, odDA, .func (PySem.W.fnOf "always" "Demands.always" (defArgs sDa) (defBody sDa) (defScope sDa) .none kVDA dcDA pmDA anDA cdDA ctDA), slDA⟩) (cDA : PySem.W.codeIn K cdDA "Demands.always" = true) (kDA : PySem.W.keepIn K (.ref fDA) = true)
    (lDN : K.lookup fDN = some ⟨ocDN, odDN, .func (PySem.W.fnOf "never" "Demands.never" (defArgs sDn) (defBody sDn) (defScope sDn) .none kVDN dcDN pmDN anDN cdDN ctDN), slDN⟩) (cDN : PySem.W.codeIn K cdDN "Demands.never" = true) (kDN : PySem.W.keepIn K (.ref fDN) = true)
    (lDI : K.lookup fDI = some ⟨ocDI, odDI, .func (PySem.W.fnOf "__init__" "Demands.__init__" (defArgs sDi) (defBody sDi) (defScope sDi) .none kVDI dcDI pmDI anDI cdDI ctDI), slDI⟩) (cDI : PySem.W.codeIn K cdDI "Demands.__init__" = true) (kDI : PySem.W.keepIn K (.ref fDI) = true)
    (lDM : K.lookup fDM = some ⟨ocDM, odDM, .func (PySem.W.fnOf "made" "Demands.made" (defArgs sDm) (defBody sDm) (defScope sDm) .none kVDM dcDM pmDM anDM cdDM ctDM), slDM⟩) (cDM : PySem.W.codeIn K cdDM "Demands.made" = true) (kDM : PySem.W.keepIn K (.ref fDM) = true)
    (lDC : K.lookup fDC = some ⟨ocDC, odDC, .func (PySem.W.fnOf "__call__" "Demands.__call__" (defArgs sDc) (defBody sDc) (defScope sDc) .none kVDC dcDC pmDC anDC cdDC ctDC), slDC⟩) (cDC : PySem.W.codeIn K cdDC "Demands.__call__" = true) (kDC : PySem.W.keepIn K (.ref fDC) = true)
    (lDE : K.lookup fDE = some ⟨ocDE, odDE, .func (PySem.W.fnOf "__eq__" "Demands.__eq__" (defArgs sDe) (defBody sDe) (defScope sDe) .none kVDE dcDE pmDE anDE cdDE ctDE), slDE⟩) (cDE : PySem.W.codeIn K cdDE "Demands.__eq__" = true) (kDE : PySem.W.keepIn K (.ref fDE) = true)
    (lDL : K.lookup fDL = some ⟨ocDL, odDL, .func (PySem.W.fnOf "__len__" "Demands.__len__" (defArgs sDl) (defBody sDl) (defScope sDl) .none kVDL dcDL pmDL anDL cdDL ctDL), slDL⟩) (cDL : PySem.W.codeIn K cdDL "Demands.__len__" = true) (kDL : PySem.W.keepIn K (.ref fDL) = true)
    (lDG : K.lookup fDG = some ⟨ocDG, odDG, .func (PySem.W.fnOf "__getitem__" "Demands.__getitem__" (defArgs sDg) (defBody sDg) (defScope sDg) .none kVDG dcDG pmDG anDG cdDG ctDG), slDG⟩) (cDG : PySem.W.codeIn K cdDG "Demands.__getitem__" = true) (kDG : PySem.W.keepIn K (.ref fDG) = true)
    (aC : PySem.W.nsIn K mainGlobals "Acts" = some (some (.ref C)))
    (aCD : PySem.W.nsIn K mainGlobals "Demands" = some (some (.ref CD)))
    (aIN : PySem.W.findIn K (.ref C) "__init__" = some (some (.ref fIN)))
    (iIN : PySem.W.isFn K (.ref fIN) = true)
    (aLN : PySem.W.findIn K (.ref C) "__len__" = some (some (.ref fLN)))
    (iLN : PySem.W.isFn K (.ref fLN) = true)
    (aCO : PySem.W.findIn K (.ref C) "__contains__" = some (some (.ref fCO)))
    (iCO : PySem.W.isFn K (.ref fCO) = true)
    (aEQ : PySem.W.findIn K (.ref C) "__eq__" = some (some (.ref fEQ)))
    (iEQ : PySem.W.isFn K (.ref fEQ) = true)
    (aWI : PySem.W.findIn K (.ref C) "within" = some (some (.ref fWI)))
    (iWI : PySem.W.isFn K (.ref fWI) = true)
    (aDI : PySem.W.findIn K (.ref CD) "__init__" = some (some (.ref fDI)))
    (iDI : PySem.W.isFn K (.ref fDI) = true)
    (aDC : PySem.W.findIn K (.ref CD) "__call__" = some (some (.ref fDC)))
    (iDC : PySem.W.isFn K (.ref fDC) = true)
    (aDE : PySem.W.findIn K (.ref CD) "__eq__" = some (some (.ref fDE)))
    (iDE : PySem.W.isFn K (.ref fDE) = true)
    (aDL : PySem.W.findIn K (.ref CD) "__len__" = some (some (.ref fDL)))
    (iDL : PySem.W.isFn K (.ref fDL) = true)
    (aDG : PySem.W.findIn K (.ref CD) "__getitem__" = some (some (.ref fDG)))
    (iDG : PySem.W.isFn K (.ref fDG) = true)
    (e_LeaveError : PySem.W.nsIn K mainGlobals "LeaveError" = some (some (.ref cL)))
    (e_TooMany : PySem.W.nsIn K mainGlobals "TooMany" = some (some (.ref cT)))
    (e_NoAct : PySem.W.nsIn K mainGlobals "NoAct" = some (some (.ref cA)))
    (e_NoRow : PySem.W.nsIn K mainGlobals "NoRow" = some (some (.ref cR)))
    (aTI : PySem.W.findIn K (.ref cT) "__init__" = some (some (.ref fTI)))
    (tTI : PySem.W.typeIn K (.ref fTI) = some (.type "function"))
    (oK : K.lookup cT = some (excClassObj nm_ q_ cT N_ bs_ bm_ true sn_ sub_ ab_ col_ dd_ k0_ k1_ k2_ k3_ k5_ "ValueError.__new__"))
    (oR : PySem.HandSPX.refsVE bm_ = true)
    (x_sa : PySem.W.findIn K (.ref cT) "__setattr__" = some (some (.builtin "object.__setattr__")))
    (x_be : PySem.W.subIn K (.ref cT) (.type "BaseException") = some true)
    (x_ty : PySem.W.typeIn K (.ref cT) = some (.type "type"))
    (x_kp : PySem.W.keepIn K (.ref cT) = true)
    (x_wh : PySem.W.findIn K (.ref cT) "what" = some none)
    (x_mo : PySem.W.findIn K (.ref cT) "most" = some none)
    (x_ga : PySem.W.findIn K (.ref cT) "__getattribute__" = some (some (.builtin "BaseException.__getattribute__")))
    (x_gg : PySem.W.findIn K (.ref cT) "__getattr__" = some none)
    (x_hd : PySem.W.hasDictIn K cT = true)
    (x_cl : PySem.W.findIn K (.ref cT) "__class__" = some (some (.builtin "object.__class__")))
    (hn : PySem.W.specialIn K (.builtin "object.__class__") "__get__" = some (some (.builtin "getset_descriptor.__get__")))
    (htk : PySem.W.takesIn K (.builtin "object.__class__") = some true)
    (x_ob : PySem.W.mroIn K cT (.type "object") = some true)
    (y_be : PySem.W.subIn K (.ref cL) (.type "BaseException") = some true)
    (y_hd : PySem.W.hasDictIn K cL = true)
    (y_ty : PySem.W.typeIn K (.ref cL) = some (.type "type"))
    (y_su : PySem.W.subIn K (.ref cT) (.ref cL) = some true)
    (n12 : (cT == cR) = false)
    (ic12 : PySem.W.isClsIn K cR = true)
    (ty12 : PySem.W.typeIn K (.ref cR) = some (.type "type"))
    (su12 : PySem.W.subIn K (.ref cT) (.ref cR) = some false)
    (n13 : (cT == cA) = false)
    (ic13 : PySem.W.isClsIn K cA = true)
    (ty13 : PySem.W.typeIn K (.ref cA) = some (.type "type"))
    (su13 : PySem.W.subIn K (.ref cT) (.ref cA) = some false)
    (isD : PySem.W.isClsIn K CD = true)
    (tyD : PySem.W.typeIn K (.ref CD) = some (.type "type"))
    (ha : PySem.W.findIn K (.ref C) "__class__" = some (some (.builtin "object.__class__")))
    (hmo : PySem.W.mroIn K C (.type "object") = some true)
    (pg : PySem.W.plainGet K C Str.empty = true)
    (hd : PySem.W.hasDictIn K C = true)
    (po : PySem.W.plainOver K C = true)
    (sa : PySem.W.findIn K (.ref C) "__setattr__" = some (some (.builtin "object.__setattr__")))
    (mk : PySem.W.makesIn K C = true)
    (kc : PySem.W.keepIn K (.ref C) = true)
    (rd : PySem.W.readsIn K C (.type "type") = true)
    (ga : PySem.W.specialIn K (.ref C) "__getattribute__" = some (some (.builtin "type.__getattribute__")))
    (ha2 : PySem.W.findIn K (.ref CD) "__class__" = some (some (.builtin "object.__class__")))
    (hmo2 : PySem.W.mroIn K CD (.type "object") = some true)
    (pg2 : PySem.W.plainGet K CD Str.empty = true)
    (hd2 : PySem.W.hasDictIn K CD = true)
    (po2 : PySem.W.plainOver K CD = true)
    (sa2 : PySem.W.findIn K (.ref CD) "__setattr__" = some (some (.builtin "object.__setattr__")))
    (mk2 : PySem.W.makesIn K CD = true)
    (kc2 : PySem.W.keepIn K (.ref CD) = true)
    (rd2 : PySem.W.readsIn K CD (.type "type") = true)
    (ga2 : PySem.W.specialIn K (.ref CD) "__getattribute__" = some (some (.builtin "type.__getattribute__")))
    (nR : PySem.W.findIn K (.ref C) "rows" = some none)
    (nK : PySem.W.findIn K (.ref C) "_known" = some none)
    (nS : PySem.W.findIn K (.ref CD) "sets" = some none)
    (cm : PySem.W.findCls K (.ref C) (.type "type") "made" = some (.get (.builtin "classmethod.__get__") (.ref pM) .none (.ref C)))
    (cm2 : PySem.W.findCls K (.ref CD) (.type "type") "made" = some (.get (.builtin "classmethod.__get__") (.ref pN) .none (.ref CD)))
    (cmN : PySem.W.findCls K (.ref CD) (.type "type") "never" = some (.get (.builtin "staticmethod.__get__") (.ref pV) .none (.ref CD)))
    (cmA : PySem.W.findCls K (.ref CD) (.type "type") "always" = some (.get (.builtin "staticmethod.__get__") (.ref pW) .none (.ref CD)))
    (rc : PySem.W.recIn K pM "classmethod" = some (.ref fMA :: rest))
    (rc2 : PySem.W.recIn K pN "classmethod" = some (.ref fDM :: rest2))
    (rcN : PySem.W.recIn K pV "staticmethod" = some (.ref fDN :: restN))
    (rcA : PySem.W.recIn K pW "staticmethod" = some (.ref fDA :: restA))
    (fi : PySem.W.fnIn K fMA = true)
    (fi2 : PySem.W.fnIn K fDM = true)
    (fiC : PySem.W.fnIn K fDC = true)
    (fiG : PySem.W.fnIn K fDG = true)
    (zM : PySem.W.nsIn K mainGlobals "MOST_ACTS" = some (some (.int 8 t2)))
    (zL : PySem.W.nsIn K mainGlobals "LONGEST" = some (some (.int 8 t1)))
    (zR : PySem.W.nsIn K mainGlobals "RESERVED" = some (some (.ref aR)))
    (lR : K.lookup aR = some ⟨.type "tuple", ddR, .seq itsR nR2, slR⟩)
    (vR : chkS resd itsR.toList = true)
    (szR : itsR.size ≤ sizeLine)
    (b_len : PySem.W.nsIn K mainGlobals "len" = some none)
    (b_int : PySem.W.nsIn K mainGlobals "int" = some none)
    (b_abs : PySem.W.nsIn K mainGlobals "abs" = some none)
    (b_range : PySem.W.nsIn K mainGlobals "range" = some none)
    (b_list : PySem.W.nsIn K mainGlobals "list" = some none)
    (b_tuple : PySem.W.nsIn K mainGlobals "tuple" = some none)
    (b_enumerate : PySem.W.nsIn K mainGlobals "enumerate" = some none)
    (b_isinstance : PySem.W.nsIn K mainGlobals "isinstance" = some none)
    (b_str : PySem.W.nsIn K mainGlobals "str" = some none)
    (b_set : PySem.W.nsIn K mainGlobals "set" = some none)
    (b_all : PySem.W.nsIn K mainGlobals "all" = some none)
    (b_repr : PySem.W.nsIn K mainGlobals "repr" = some none)
    (b_sorted : PySem.W.nsIn K mainGlobals "sorted" = some none)
    (b_any : PySem.W.nsIn K mainGlobals "any" = some none)
    : ∃ fd : FuncData, (∀ (z : Shared) (u : Value), BindsTo z fd ⟨[u], []⟩ [("_law_script", u)]) ∧ ∀ base : Heap, K.In base → base.Ns mainGlobals mg → FnG l.prog w K mg base 14 fa fd ["_law_script"] (spLaw K) := by
  have e := hfa.symm.trans (PySem.W.mg_of X G aLW)
  cases e
  have T : Bi mg := ⟨PySem.W.mg_none_of X G b_len, PySem.W.mg_none_of X G b_int, PySem.W.mg_none_of X G b_abs, PySem.W.mg_none_of X G b_range, PySem.W.mg_none_of X G b_list, PySem.W.mg_none_of X G b_tuple, PySem.W.mg_none_of X G b_enumerate, PySem.W.mg_none_of X G b_isinstance, PySem.W.mg_none_of X G b_str, PySem.W.mg_none_of X G b_set, PySem.W.mg_none_of X G b_all, PySem.W.mg_none_of X G b_repr⟩
  have GB : Gb K mg aR t1 t1 := ⟨PySem.W.mg_of X G zL, PySem.W.mg_of X G zR, fun H => .inr ⟨_, itsR, nR2, lR, rfl, rfl, szR, chk_vals vR⟩⟩
  have Y : TxA K mg C := ⟨⟨pg, hd, po, sa⟩, nR, nK, PySem.W.mg_of X G aC⟩
  have FIW := fun_mk (st := sIsW) lIW cIW kIW
  have FIA := fun_mk (st := sIA) lIA cIA kIA
  have FAO := fun_mk (st := sAO) lAO cAO kAO
  have FSQ := fun_mk (st := sSq) lSQ cSQ kSQ
  have FIO := fun_mk (st := sIO) lIO cIO kIO
  have FLE := fun_mk (st := sLe) lLE cLE kLE
  have FBO := fun_mk (st := sBo) lBO cBO kBO
  have FMK := fun_mk (st := sMk) lMK cMK kMK
  have FPN := fun_mk (st := sPen) lPN cPN kPN
  have FD := fun_mk (st := sDraw) lD cD kD
  have FWO := fun_mk (st := sWords) lWO cWO kWO
  have FLA := fun_mk (st := sLa) lLA cLA kLA
  have FUN := fun_mk (st := sUn) lUN cUN kUN
  have FPA := fun_mk (st := sPa) lPA cPA kPA
  have FNU := fun_mk (st := sNu) lNU cNU kNU
  have FSE := fun_mk (st := sSe) lSE cSE kSE
  have FDD := fun_mk (st := sDd) lDD cDD kDD
  have FLS := fun_mk (st := sLN) lLS cLS kLS
  have FME := fun_mk (st := sMe) lME cME kME
  have FPL := fun_mk (st := sPl) lPL cPL kPL
  have FRW := fun_mk (st := sRw) lRW cRW kRW
  have FDZ := fun_mk (st := sDz) lDZ cDZ kDZ
  have FAS := fun_mk (st := sAs) lAS cAS kAS
  have FKP := fun_mk (st := sKp) lKP cKP kKP
  have FLW := fun_mk (st := sLaw) lLW cLW kLW
  have FIN := fun_mk (st := sIn) lIN cIN kIN
  have FMA := fun_mk (st := sMd) lMA cMA kMA
  have FLN := fun_mk (st := sLn) lLN cLN kLN
  have FCO := fun_mk (st := sCo) lCO cCO kCO
  have FEQ := fun_mk (st := sQe) lEQ cEQ kEQ
  have FWI := fun_mk (st := sWi) lWI cWI kWI
  have FTI := fun_mk (st := sTMI) lTI cTI kTI
  have FDA := fun_mk (st := sDa) lDA cDA kDA
  have FDN := fun_mk (st := sDn) lDN cDN kDN
  have FDI := fun_mk (st := sDi) lDI cDI kDI
  have FDM := fun_mk (st := sDm) lDM cDM kDM
  have FDC := fun_mk (st := sDc) lDC cDC kDC
  have FDE := fun_mk (st := sDe) lDE cDE kDE
  have FDL := fun_mk (st := sDl) lDL cDL kDL
  have FDG := fun_mk (st := sDg) lDG cDG kDG
  have DIW : Df K mg "is_word" sIsW fIW _ (["x"] : List Str) := ⟨FIW, PySem.W.mg_of X G aIW, FIW.binds (ps := ["x"]) fun _ _ _ _ _ _ us hl => match us, hl with | [_], _ => rfl⟩
  have DIA : Df K mg "is_act" sIA fIA _ (["x"] : List Str) := ⟨FIA, PySem.W.mg_of X G aIA, FIA.binds (ps := ["x"]) fun _ _ _ _ _ _ us hl => match us, hl with | [_], _ => rfl⟩
  have DAO : Df K mg "act_order" sAO fAO _ (["act"] : List Str) := ⟨FAO, PySem.W.mg_of X G aAO, FAO.binds (ps := ["act"]) fun _ _ _ _ _ _ us hl => match us, hl with | [_], _ => rfl⟩
  have DSQ : Df K mg "_set_order" sSq fSQ _ (["one"] : List Str) := ⟨FSQ, PySem.W.mg_of X G aSQ, FSQ.binds (ps := ["one"]) fun _ _ _ _ _ _ us hl => match us, hl with | [_], _ => rfl⟩
  have DIO : Df K mg "in_order_of_sets" sIO fIO _ (["sets"] : List Str) := ⟨FIO, PySem.W.mg_of X G aIO, FIO.binds (ps := ["sets"]) fun _ _ _ _ _ _ us hl => match us, hl with | [_], _ => rfl⟩
  have DLE : Df K mg "_least" sLe fLE _ (["sets"] : List Str) := ⟨FLE, PySem.W.mg_of X G aLE, FLE.binds (ps := ["sets"]) fun _ _ _ _ _ _ us hl => match us, hl with | [_], _ => rfl⟩
  have DBO : Df K mg "_bits_of" sBo fBO _ (["sets"] : List Str) := ⟨FBO, PySem.W.mg_of X G aBO, FBO.binds (ps := ["sets"]) fun _ _ _ _ _ _ us hl => match us, hl with | [_], _ => rfl⟩
  have DMK : Df K mg "_mask" sMk fMK _ (["one", "bits"] : List Str) := ⟨FMK, PySem.W.mg_of X G aMK, FMK.binds (ps := ["one", "bits"]) fun _ _ _ _ _ _ us hl => match us, hl with | [_, _], _ => rfl⟩
  have DPN : Df K mg "_law_pen" sPen fPN _ (["_law_script"] : List Str) := ⟨FPN, PySem.W.mg_of X G aPN, FPN.binds (ps := ["_law_script"]) fun _ _ _ _ _ _ us hl => match us, hl with | [_], _ => rfl⟩
  have DD : Df K mg "_law_draw" sDraw fD _ (["_law_pen_here", "_law_many"] : List Str) := ⟨FD, PySem.W.mg_of X G aD, FD.binds (ps := ["_law_pen_here", "_law_many"]) fun _ _ _ _ _ _ us hl => match us, hl with | [_, _], _ => rfl⟩
  have DWO : Df K mg "_law_words" sWords fWO _ (["_law_pen_here", "_law_many"] : List Str) := ⟨FWO, PySem.W.mg_of X G aWO, FWO.binds (ps := ["_law_pen_here", "_law_many"]) fun _ _ _ _ _ _ us hl => match us, hl with | [_, _], _ => rfl⟩
  have DLA : Df K mg "_law_acts" sLa fLA _ (["_law_pen_here", "_law_outside", "_law_classes", "_law_many"] : List Str) := ⟨FLA, PySem.W.mg_of X G aLA, FLA.binds (ps := ["_law_pen_here", "_law_outside", "_law_classes", "_law_many"]) fun _ _ _ _ _ _ us hl => match us, hl with | [_, _, _, _], _ => rfl⟩
  have DUN : Df K mg "_law_universe" sUn fUN _ (["_law_pen_here", "_law_many"] : List Str) := ⟨FUN, PySem.W.mg_of X G aUN, FUN.binds (ps := ["_law_pen_here", "_law_many"]) fun _ _ _ _ _ _ us hl => match us, hl with | [_, _], _ => rfl⟩
  have DPA : Df K mg "_law_part" sPa fPA _ (["_law_acts_here", "_law_s"] : List Str) := ⟨FPA, PySem.W.mg_of X G aPA, FPA.binds (ps := ["_law_acts_here", "_law_s"]) fun _ _ _ _ _ _ us hl => match us, hl with | [_, _], _ => rfl⟩
  have DNU : Df K mg "_law_numbers" sNu fNU _ (["_law_pen_here", "_law_acts_here"] : List Str) := ⟨FNU, PySem.W.mg_of X G aNU, FNU.binds (ps := ["_law_pen_here", "_law_acts_here"]) fun _ _ _ _ _ _ us hl => match us, hl with | [_, _], _ => rfl⟩
  have DSE : Df K mg "_law_sets" sSe fSE _ (["_law_pen_here", "_law_acts_here", "_law_many"] : List Str) := ⟨FSE, PySem.W.mg_of X G aSE, FSE.binds (ps := ["_law_pen_here", "_law_acts_here", "_law_many"]) fun _ _ _ _ _ _ us hl => match us, hl with | [_, _, _], _ => rfl⟩
  have DDD : Df K mg "_law_demands" sDd fDD _ (["_law_acts_here", "_law_numbers_here"] : List Str) := ⟨FDD, PySem.W.mg_of X G aDD, FDD.binds (ps := ["_law_acts_here", "_law_numbers_here"]) fun _ _ _ _ _ _ us hl => match us, hl with | [_, _], _ => rfl⟩
  have DLS : Df K mg "_law_least" sLN fLS _ (["_law_numbers_here"] : List Str) := ⟨FLS, PySem.W.mg_of X G aLS, FLS.binds (ps := ["_law_numbers_here"]) fun _ _ _ _ _ _ us hl => match us, hl with | [_], _ => rfl⟩
  have DME : Df K mg "_law_met" sMe fME _ (["_law_numbers_here", "_law_s"] : List Str) := ⟨FME, PySem.W.mg_of X G aME, FME.binds (ps := ["_law_numbers_here", "_law_s"]) fun _ _ _ _ _ _ us hl => match us, hl with | [_, _], _ => rfl⟩
  have DPL : Df K mg "_law_place" sPl fPL _ (["_law_act"] : List Str) := ⟨FPL, PySem.W.mg_of X G aPL, FPL.binds (ps := ["_law_act"]) fun _ _ _ _ _ _ us hl => match us, hl with | [_], _ => rfl⟩
  have DRW : Df K mg "_law_rows" sRw fRW _ (["_law_acts_here", "_law_s"] : List Str) := ⟨FRW, PySem.W.mg_of X G aRW, FRW.binds (ps := ["_law_acts_here", "_law_s"]) fun _ _ _ _ _ _ us hl => match us, hl with | [_, _], _ => rfl⟩
  have DDZ : Df K mg "_law_due" sDz fDZ _ (["_law_acts_here", "_law_numbers_here"] : List Str) := ⟨FDZ, PySem.W.mg_of X G aDZ, FDZ.binds (ps := ["_law_acts_here", "_law_numbers_here"]) fun _ _ _ _ _ _ us hl => match us, hl with | [_, _], _ => rfl⟩
  have DAS : Df K mg "_law_asked" sAs fAS _ (["_law_acts_here", "_law_numbers_here"] : List Str) := ⟨FAS, PySem.W.mg_of X G aAS, FAS.binds (ps := ["_law_acts_here", "_law_numbers_here"]) fun _ _ _ _ _ _ us hl => match us, hl with | [_, _], _ => rfl⟩
  have DKP : Df K mg "_law_kept" sKp fKP _ (["_law_pen_here", "_law_acts_here", "_law_numbers_here"] : List Str) := ⟨FKP, PySem.W.mg_of X G aKP, FKP.binds (ps := ["_law_pen_here", "_law_acts_here", "_law_numbers_here"]) fun _ _ _ _ _ _ us hl => match us, hl with | [_, _, _], _ => rfl⟩
  have BMA := FMA.binds (ps := ["cls", "rows"]) fun _ _ _ _ _ _ us hl => match us, hl with | [_, _], _ => rfl
  have BLN := FLN.binds (ps := ["self"]) fun _ _ _ _ _ _ us hl => match us, hl with | [_], _ => rfl
  have BCO := FCO.binds (ps := ["self", "x"]) fun _ _ _ _ _ _ us hl => match us, hl with | [_, _], _ => rfl
  have BEQ := FEQ.binds (ps := ["self", "other"]) fun _ _ _ _ _ _ us hl => match us, hl with | [_, _], _ => rfl
  have BWI := FWI.binds (ps := ["self", "other"]) fun _ _ _ _ _ _ us hl => match us, hl with | [_, _], _ => rfl
  have BTI := FTI.binds (ps := ["self", "what", "most"]) fun _ _ _ _ _ _ us hl => match us, hl with | [_, _, _], _ => rfl
  have BDA := FDA.binds (ps := []) fun _ _ _ _ _ _ us hl => match us, hl with | [], _ => rfl
  have BDN := FDN.binds (ps := []) fun _ _ _ _ _ _ us hl => match us, hl with | [], _ => rfl
  have BDM := FDM.binds (ps := ["cls", "sets"]) fun _ _ _ _ _ _ us hl => match us, hl with | [_, _], _ => rfl
  have BDC := FDC.binds (ps := ["self", "acts"]) fun _ _ _ _ _ _ us hl => match us, hl with | [_, _], _ => rfl
  have BDE := FDE.binds (ps := ["self", "other"]) fun _ _ _ _ _ _ us hl => match us, hl with | [_, _], _ => rfl
  have BDL := FDL.binds (ps := ["self"]) fun _ _ _ _ _ _ us hl => match us, hl with | [_], _ => rfl
  have BDG := FDG.binds (ps := ["self", "at"]) fun _ _ _ _ _ _ us hl => match us, hl with | [_, _], _ => rfl
  have tSo := PySem.W.mg_none_of X G b_sorted
  have tAny := PySem.W.mg_none_of X G b_any
  have O : OwnA K C := ⟨ha, hn, htk, hmo⟩
  have OD : OwnA K CD := ⟨ha2, hn, htk, hmo2⟩
  have M : Mk K C fIN := ⟨mk, aIN, iIN, kc⟩
  have MD : Mk K CD fDI := ⟨mk2, aDI, iDI, kc2⟩
  have YD : TxD K mg CD := ⟨⟨pg2, hd2, po2, sa2⟩, nS, PySem.W.mg_of X G aCD⟩
  have MKx : ManyN K cT cL cA cR := ⟨PySem.W.exm_ref y_be y_hd y_ty y_su, ⟨x_ga, x_gg, x_be, x_hd, x_cl, hn, htk, x_ob⟩, ⟨x_ga, x_gg, x_be, x_hd⟩, x_wh, x_mo, kit_same, any_no (kit_ref n13 ic13 ty13 su13) (any_no (kit_ref n12 ic12 ty12 su12) rfl)⟩
  have TMx : TM K mg cT fTI := ⟨⟨⟨_, _, _, _, _, _, _, _, _, _, _, _, _, _, _, oK, oR⟩, x_sa, x_be, x_ty, x_kp⟩, x_wh, x_mo, aTI, tTI, PySem.W.mg_of X G e_TooMany⟩
  refine ⟨_, fun z u => .of_eq (fd := (PySem.W.fnOf "law" "law" (defArgs sLaw) (defBody sLaw) (defScope sLaw) .none kVLW dcLW pmLW anLW cdLW ctLW)) rfl, fun base _ _ => ?_⟩
  have GD := ok_draw (P := l.prog) (w := w) (base := base) FD T
  have GWo := ok_wordsB FWO T DD GD
  have GIw := ok_iswG (P := l.prog) (w := w) (base := base) FIW T GB
  have GIa := ok_ia FIA T DIW GIw
  have GAo := ok_ao (P := l.prog) (w := w) (mg := mg) (base := base) FAO
  have GIn := ok_in FIN Y T tSo DIA GIa DAO GAo
  have GMa := ok_md FMA M GIn
  have GLn := ok_ln (P := l.prog) (w := w) (base := base) FLN Y T
  have GCo := ok_co FCO Y DIA GIa
  have GWi := ok_wi FWI Y T GCo BCO aCO iCO
  have GQe := ok_qe (P := l.prog) (w := w) (base := base) FEQ Y T O
  have mWi : Meth K C "within" fWI := ⟨aWI, iWI, kWI⟩
  have cR : ClX.CRead K C (.type "type") := ⟨rd, ga⟩
  have cM : ClX.CMet K C (.type "type") "made" pM fMA := ⟨cm, ⟨rest, rc⟩, fi⟩
  have dR : ClX.CRead K CD (.type "type") := ⟨rd2, ga2⟩
  have dM : ClX.CMet K CD (.type "type") "made" pN fDM := ⟨cm2, ⟨rest2, rc2⟩, fi2⟩
  have sN : SMet K CD (.type "type") "never" pV fDN := ⟨cmN, ⟨restN, rcN⟩, kDN⟩
  have sA : SMet K CD (.type "type") "always" pW fDA := ⟨cmA, ⟨restA, rcA⟩, kDA⟩
  have cDc : StX.CallO K CD fDC := ⟨aDC, iDC, fiC⟩
  have GSq := ok_sO FSQ T Y GLn BLN aLN iLN DAO GAo
  have GIo := ok_io FIO tSo DSQ GSq
  have GBo := ok_bo (P := l.prog) (w := w) (base := base) FBO Y T
  have GMk := ok_mk (P := l.prog) (w := w) (base := base) FMK Y
  have GTi := ok_tmi (P := l.prog) (w := w) (base := base) FTI TMx
  have GLe := ok_leB FLE Y T tAny (PySem.W.mg_of X G zM) DBO GBo DIO GIo DMK GMk TMx GTi BTI
  have GDiB := ok_diB FDI YD DLE GLe
  have GDi := di_calm GDiB
  have GDm := ok_dmB FDM MD GDiB
  have GDn := ok_dn FDN YD MD GDi
  have GDa := ok_da FDA YD MD GDi Y M GIn
  have GDc := ok_dc FDC YD Y tAny mWi GWi BWI
  have GDl := ok_dl (P := l.prog) (w := w) (base := base) (C := C) FDL YD T
  have GDg := ok_dg (P := l.prog) (w := w) (base := base) (C := C) FDG YD
  have GDe := ok_deB FDE YD T OD (kit_no (l := ["list", "object"]) isD tyD (by decide +kernel)) GQe BEQ aEQ iEQ
  have GPa := ok_paV (P := l.prog) (w := w) (base := base) FPA T
  have GDd := ok_ddB FDD T Y YD DPA GPa cR cM GMa BMA dR dM GDm BDM
  have GLs := ok_lN (P := l.prog) (w := w) (base := base) FLS T tAny
  have GMe := ok_me (P := l.prog) (w := w) (base := base) FME T tAny
  have GPl := ok_pl (P := l.prog) (w := w) (mg := mg) (base := base) FPL
  have GRw := ok_rw FRW tSo DPA GPa DPL GPl
  have GDz := ok_dz FDZ T tSo DLS GLs DRW GRw DPL GPl
  have GAs := ok_as FAS T (PySem.W.mg_of X G e_LeaveError) (PySem.W.mg_of X G e_TooMany) (PySem.W.mg_of X G e_NoAct) (PySem.W.mg_of X G e_NoRow) MKx DDD GDd
  have GSe := ok_seV FSE T DD GD
  have GNu := ok_nu FNU T DD GD
  have GLa := ok_la FLA T DD GD
  have GUn := ok_un FUN T DWO GWo DLA GLa
  have GPn := ok_pen (P := l.prog) (w := w) (base := base) FPN T
  have GDmT := ok_dmT FDM MD GDiB
  have GKp := ok_kp FKP T Y YD OD MD GDiB DPA GPa DDD GDd DNU GNu DME GMe DDZ GDz DAS GAs cR cM GMa BMA dR dM GDmT BDM GDe BDE aDE iDE cDc GDc BDC GDl BDL aDL iDL GDg BDG aDG iDG fiG
  exact ok_lawK FLW T Y YD OD DPN GPn DD GD DUN GUn DSE GSe DKP GKp DLS GLs DAS GAs DDZ GDz cR cM GMa BMA cDc GDc BDC GDl BDL aDL iDL dR sN GDn BDN sA GDa BDA
theorem walk {l : PySem.W.OpenLaw} {q : Program} {loose : List Str} {XP : (Str → Option Value) → Heap → Prop} {YP : World → Heap → Prop} {d : DefRec} {K : Params → PySem.W.Frag} (hn : l.most = some 63) (hdf : d.params.defaults = [])
    (hY : ∀ (w : World) (h : Heap), YP w h → (K w.params).In h)
    (F : ∀ (w : World) (mg : Str → Option Value) (fa : Addr) (h : Heap), (K w.params).In h → h.Ns mainGlobals mg → mg d.name = some (.ref fa) →
      ∃ fd : FuncData, (∀ (z : Shared) (u : Value), BindsTo z fd ⟨[u], []⟩ [("_law_script", u)]) ∧ ∀ base : Heap, (K w.params).In base → base.Ns mainGlobals mg → FnG l.prog w (K w.params) mg base 14 fa fd ["_law_script"] (spLaw (K w.params))) :
    PySem.W.WalkO q loose XP YP l.row.toRowW d [] (fun f vs => PySem.call f vs) := walk_ofG hn hdf ⟨rfl, by decide, by decide⟩ hY F
end K2
end
section
set_option Elab.async false
set_option maxRecDepth 100000
open PySem PySem.W PyProof.Rows
set_option maxRecDepth 100000 in
set_option maxHeartbeats 0 in
theorem PySem.Challenge.cw_whatleaves_k40_least_sets_kept_holds : PySem.Challenge.rw_whatleaves_k40_least_sets_kept.Holds := by
  w_on; o_law; k_head; (case hw => w_witness2)
  k_fill
  refine K2.walk (l := PySem.Challenge.rw_whatleaves_k40_least_sets_kept) rfl rfl (fun w h Y => PySem.W.kIn_of Y) ?F
  case F =>
    intro w mg fa h KX G hmg
    refine' K2.all_mk KX G hmg ?aIW ?aIA ?aAO ?aSQ ?aIO ?aLE ?aBO ?aMK ?aPN ?aD ?aWO ?aLA ?aUN ?aPA ?aNU ?aSE ?aDD ?aLS ?aME ?aPL ?aRW ?aDZ ?aAS ?aKP ?aLW ?lIW ?cIW ?kIW ?lIA ?cIA ?kIA ?lAO ?cAO ?kAO ?lSQ ?cSQ ?kSQ ?lIO ?cIO ?kIO ?lLE ?cLE ?kLE ?lBO ?cBO ?kBO ?lMK ?cMK ?kMK ?lPN ?cPN ?kPN ?lD ?cD ?kD ?lWO ?cWO ?kWO ?lLA ?cLA ?kLA ?lUN ?cUN ?kUN ?lPA ?cPA ?kPA ?lNU ?cNU ?kNU ?lSE ?cSE ?kSE ?lDD ?cDD ?kDD ?lLS ?cLS ?kLS ?lME ?cME ?kME ?lPL ?cPL ?kPL ?lRW ?cRW ?kRW ?lDZ ?cDZ ?kDZ ?lAS ?cAS ?kAS ?lKP ?cKP ?kKP ?lLW ?cLW ?kLW ?lIN ?cIN ?kIN ?lMA ?cMA ?kMA ?lLN ?cLN ?kLN ?lCO ?cCO ?kCO ?lEQ ?cEQ ?kEQ ?lWI ?cWI ?kWI ?lTI ?cTI ?kTI ?lDA ?cDA ?kDA ?lDN ?cDN ?kDN ?lDI ?cDI ?kDI ?lDM ?cDM ?kDM ?lDC ?cDC ?kDC ?lDE ?cDE ?kDE ?lDL ?cDL ?kDL ?lDG ?cDG ?kDG ?aC ?aCD ?aIN ?iIN ?aLN ?iLN ?aCO ?iCO ?aEQ ?iEQ ?aWI ?iWI ?aDI ?iDI ?aDC ?iDC ?aDE ?iDE ?aDL ?iDL ?aDG ?iDG ?e_LeaveError ?e_TooMany ?e_NoAct ?e_NoRow ?aTI ?tTI ?oK ?oR ?x_sa ?x_be ?x_ty ?x_kp ?x_wh ?x_mo ?x_ga ?x_gg ?x_hd ?x_cl ?hn ?htk ?x_ob ?y_be ?y_hd ?y_ty ?y_su ?n12 ?ic12 ?ty12 ?su12 ?n13 ?ic13 ?ty13 ?su13 ?isD ?tyD ?ha ?hmo ?pg ?hd ?po ?sa ?mk ?kc ?rd ?ga ?ha2 ?hmo2 ?pg2 ?hd2 ?po2 ?sa2 ?mk2 ?kc2 ?rd2 ?ga2 ?nR ?nK ?nS ?cm ?cm2 ?cmN ?cmA ?rc ?rc2 ?rcN ?rcA ?fi ?fi2 ?fiC ?fiG ?zM ?zL ?zR ?lR ?vR ?szR ?b_len ?b_int ?b_abs ?b_range ?b_list ?b_tuple ?b_enumerate ?b_isinstance ?b_str ?b_set ?b_all ?b_repr ?b_sorted ?b_any
    (case aIW => k_is)
    (case aIA => k_is)
    (case aAO => k_is)
    (case aSQ => k_is)
    (case aIO => k_is)
    (case aLE => k_is)
    (case aBO => k_is)
    (case aMK => k_is)
    (case aPN => k_is)
    (case aD => k_is)
    (case aWO => k_is)
    (case aLA => k_is)
    (case aUN => k_is)
    (case aPA => k_is)
    (case aNU => k_is)
    (case aSE => k_is)
    (case aDD => k_is)
    (case aLS => k_is)
    (case aME => k_is)
    (case aPL => k_is)
    (case aRW => k_is)
    (case aDZ => k_is)
    (case aAS => k_is)
    (case aKP => k_is)
    (case aLW => k_is)
    (case aC => k_is)
    (case aCD => k_is)
    (case e_LeaveError => k_is)
    (case e_TooMany => k_is)
    (case e_NoAct => k_is)
    (case e_NoRow => k_is)
    (case aTI => k_is)
    (case aIN => k_is)
    (case aLN => k_is)
    (case aCO => k_is)
    (case aEQ => k_is)
    (case aWI => k_is)
    (case aDI => k_is)
    (case aDC => k_is)
    (case aDE => k_is)
    (case aDL => k_is)
    (case aDG => k_is)
    (case cm => k_is)
    (case cm2 => k_is)
    (case cmN => k_is)
    (case cmA => k_is)
    (case rc => k_is)
    (case rc2 => k_is)
    (case rcN => k_is)
    (case rcA => k_is)
    (case lIW => k_is)
    (case cIW => k_is)
    (case kIW => k_is)
    (case lIA => k_is)
    (case cIA => k_is)
    (case kIA => k_is)
    (case lAO => k_is)
    (case cAO => k_is)
    (case kAO => k_is)
    (case lSQ => k_is)
    (case cSQ => k_is)
    (case kSQ => k_is)
    (case lIO => k_is)
    (case cIO => k_is)
    (case kIO => k_is)
    (case lLE => k_is)
    (case cLE => k_is)
    (case kLE => k_is)
    (case lBO => k_is)
    (case cBO => k_is)
    (case kBO => k_is)
    (case lMK => k_is)
    (case cMK => k_is)
    (case kMK => k_is)
    (case lPN => k_is)
    (case cPN => k_is)
    (case kPN => k_is)
    (case lD => k_is)
    (case cD => k_is)
    (case kD => k_is)
    (case lWO => k_is)
    (case cWO => k_is)
    (case kWO => k_is)
    (case lLA => k_is)
    (case cLA => k_is)
    (case kLA => k_is)
    (case lUN => k_is)
    (case cUN => k_is)
    (case kUN => k_is)
    (case lPA => k_is)
    (case cPA => k_is)
    (case kPA => k_is)
    (case lNU => k_is)
    (case cNU => k_is)
    (case kNU => k_is)
    (case lSE => k_is)
    (case cSE => k_is)
    (case kSE => k_is)
    (case lDD => k_is)
    (case cDD => k_is)
    (case kDD => k_is)
    (case lLS => k_is)
    (case cLS => k_is)
    (case kLS => k_is)
    (case lME => k_is)
    (case cME => k_is)
    (case kME => k_is)
    (case lPL => k_is)
    (case cPL => k_is)
    (case kPL => k_is)
    (case lRW => k_is)
    (case cRW => k_is)
    (case kRW => k_is)
    (case lDZ => k_is)
    (case cDZ => k_is)
    (case kDZ => k_is)
    (case lAS => k_is)
    (case cAS => k_is)
    (case kAS => k_is)
    (case lKP => k_is)
    (case cKP => k_is)
    (case kKP => k_is)
    (case lLW => k_is)
    (case cLW => k_is)
    (case kLW => k_is)
    (case lIN => k_is)
    (case cIN => k_is)
    (case kIN => k_is)
    (case lMA => k_is)
    (case cMA => k_is)
    (case kMA => k_is)
    (case lLN => k_is)
    (case cLN => k_is)
    (case kLN => k_is)
    (case lCO => k_is)
    (case cCO => k_is)
    (case kCO => k_is)
    (case lEQ => k_is)
    (case cEQ => k_is)
    (case kEQ => k_is)
    (case lWI => k_is)
    (case cWI => k_is)
    (case kWI => k_is)
    (case lTI => k_is)
    (case cTI => k_is)
    (case kTI => k_is)
    (case lDA => k_is)
    (case cDA => k_is)
    (case kDA => k_is)
    (case lDN => k_is)
    (case cDN => k_is)
    (case kDN => k_is)
    (case lDI => k_is)
    (case cDI => k_is)
    (case kDI => k_is)
    (case lDM => k_is)
    (case cDM => k_is)
    (case kDM => k_is)
    (case lDC => k_is)
    (case cDC => k_is)
    (case kDC => k_is)
    (case lDE => k_is)
    (case cDE => k_is)
    (case kDE => k_is)
    (case lDL => k_is)
    (case cDL => k_is)
    (case kDL => k_is)
    (case lDG => k_is)
    (case cDG => k_is)
    (case kDG => k_is)
    (case iIN => k_is)
    (case iLN => k_is)
    (case iCO => k_is)
    (case iEQ => k_is)
    (case iWI => k_is)
    (case iDI => k_is)
    (case iDC => k_is)
    (case iDE => k_is)
    (case iDL => k_is)
    (case iDG => k_is)
    (case tTI => k_is)
    (case oK => k_is)
    (case oR => decide +kernel)
    (case x_sa => k_is)
    (case x_be => k_is)
    (case x_ty => k_is)
    (case x_kp => k_is)
    (case x_wh => k_is)
    (case x_mo => k_is)
    (case x_ga => k_is)
    (case x_gg => k_is)
    (case x_hd => k_is)
    (case x_cl => k_is)
    (case hn => k_is)
    (case htk => k_is)
    (case x_ob => k_is)
    (case y_be => k_is)
    (case y_hd => k_is)
    (case y_ty => k_is)
    (case y_su => k_is)
    (case n12 => decide)
    (case ic12 => k_is)
    (case ty12 => k_is)
    (case su12 => k_is)
    (case n13 => decide)
    (case ic13 => k_is)
    (case ty13 => k_is)
    (case su13 => k_is)
    (case isD => k_is)
    (case tyD => k_is)
    (case ha => k_is)
    (case hmo => k_is)
    (case pg => k_is)
    (case hd => k_is)
    (case po => k_is)
    (case sa => k_is)
    (case mk => k_is)
    (case kc => k_is)
    (case rd => k_is)
    (case ga => k_is)
    (case ha2 => k_is)
    (case hmo2 => k_is)
    (case pg2 => k_is)
    (case hd2 => k_is)
    (case po2 => k_is)
    (case sa2 => k_is)
    (case mk2 => k_is)
    (case kc2 => k_is)
    (case rd2 => k_is)
    (case ga2 => k_is)
    (case nR => k_is)
    (case nK => k_is)
    (case nS => k_is)
    (case fi => k_is)
    (case fi2 => k_is)
    (case fiC => k_is)
    (case fiG => k_is)
    (case zM => k_is)
    (case zL => k_is)
    (case zR => k_is)
    (case lR => k_is)
    (case vR => decide +kernel)
    (case szR => decide +kernel)
    (case b_len => k_is)
    (case b_int => k_is)
    (case b_abs => k_is)
    (case b_range => k_is)
    (case b_list => k_is)
    (case b_tuple => k_is)
    (case b_enumerate => k_is)
    (case b_isinstance => k_is)
    (case b_str => k_is)
    (case b_set => k_is)
    (case b_all => k_is)
    (case b_repr => k_is)
    (case b_sorted => k_is)
    (case b_any => k_is)
end
