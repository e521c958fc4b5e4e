import PyProof.Rows.All
import Wide.All
import OpenK.AllK
import Wide.FinOn
import HandS.ForMost
import HandS.Style
import HandS.TupAny
import HandS.Strs
import HandS.IsInst
import HandS.StrMore
import HandS.Walk
import KE.GoesEnum
import KE.GoesMore
import HandS.Star
import HandS.Conv
import HandS.ClsMeth
import HandS.MakeKw
import PyProof.ReprLen
import HandS.OwnEq
import PyProof.InstNe
import HandS.More
import HandS.Wide
import PySem.Challenge.RW_whatleaves_k01_rows_and_names
section
set_option autoImplicit true
namespace K2
open PySem

abbrev Row := Str × List Str
def barredL : List String := ["pass", "raise", "from", "none", "again", "return", "returns", "break", "call", "handling", "else", "either", "or", "loop", "try", "except", "as", "finally", "with", "quiet", "class", "def", "error", "vacant"]
def barred : List Str := barredL.map Str.ofString
def resd : List Str := barred.take 22
def sErr : Str := Str.ofString "error"
def sVac : Str := Str.ofString "vacant"
def codes (x : Str) : List Nat := x.cps.toList
def txt (l : List Nat) : Str := ⟨l.toArray⟩
theorem codes_txt (l : List Nat) : codes (txt l) = l := by simp [codes, txt]
theorem txt_codes (x : Str) : txt (codes x) = x := by cases x; simp [codes, txt]
theorem codes_inj {x y : Str} (h : codes x = codes y) : x = y := by rw [← txt_codes x, ← txt_codes y, h]

/-- a text of small letters -/
def Low (l : List Nat) : Prop := ∀ c ∈ l, 97 ≤ c ∧ c ≤ 122
/-- a word of the document -/
structure VW (x : Str) : Prop where
  low : Low (codes x)
  ne : codes x ≠ []
  le : (codes x).length ≤ 8
  nr : x ∉ resd
theorem vw_err : VW sErr := ⟨by unfold Low; decide +kernel, by decide +kernel, by decide +kernel, by decide +kernel⟩
theorem vw_vac : VW sVac := ⟨by unfold Low; decide +kernel, by decide +kernel, by decide +kernel, by decide +kernel⟩
theorem err_ne_vac : sErr ≠ sVac := by decide +kernel
theorem mem_resd {x : Str} (h : x ∈ resd) : x ∈ barred := List.mem_of_mem_take h
theorem err_barred : sErr ∈ barred := by decide +kernel
theorem vac_barred : sVac ∈ barred := by decide +kernel

/-! ### words -/
def wordAt (base : List Nat) (spot : Nat) (sign : Nat) : List Nat := base.take spot ++ [sign] ++ base.drop spot
def signAt (first hop k : Nat) : Nat := 97 + (first + hop * k) % 26
def finalAt (base : List Nat) (spot first hop k : Nat) : List Nat :=
  let w := wordAt base spot (signAt first hop k)
  w ++ (if 26 ≤ k then [113] else if txt w ∈ barred then [122] else [])
theorem barred_end : ∀ b ∈ barred, ∀ c, (codes b).getLast? = some c → c ≠ 113 ∧ c ≠ 122 := by
  have h : ∀ b ∈ barred, (codes b).getLast? ≠ some 113 ∧ (codes b).getLast? ≠ some 122 := by decide +kernel
  intro b hb c hc
  have := h b hb
  refine ⟨fun e => this.1 (by rw [hc, e]), fun e => this.2 (by rw [hc, e])⟩
theorem low_wordAt (hb : Low base) (h1 : 97 ≤ sign) (h2 : sign ≤ 122) : Low (wordAt base spot sign) := by
  intro c hc
  unfold wordAt at hc
  rcases List.mem_append.mp hc with hc | hc
  · rcases List.mem_append.mp hc with hc | hc
    · exact hb c (List.mem_of_mem_take hc)
    · have : c = sign := by simpa using hc
      omega
  · exact hb c (List.mem_of_mem_drop hc)
theorem len_wordAt (base : List Nat) (spot sign : Nat) : (wordAt base spot sign).length = base.length + 1 := by
  unfold wordAt
  simp only [List.length_append, List.length_take, List.length_drop, List.length_singleton]
  omega
theorem sign_lo (f h k : Nat) : 97 ≤ signAt f h k ∧ signAt f h k ≤ 122 := by
  unfold signAt; omega
theorem sign_ne {f hop i j : Nat} (hh : hop ∈ [1, 3, 5, 7, 9, 11]) (h1 : i < j) (h2 : j < i + 26) : signAt f hop i ≠ signAt f hop j := by
  unfold signAt
  simp only [List.mem_cons, List.not_mem_nil, or_false] at hh
  rcases hh with rfl | rfl | rfl | rfl | rfl | rfl <;> omega
theorem word_ne {base : List Nat} {spot s t : Nat} (h : s ≠ t) : wordAt base spot s ≠ wordAt base spot t := by
  unfold wordAt
  intro e
  rw [List.append_assoc, List.append_assoc] at e
  have := List.append_cancel_left e
  have h2 : s = t := by simpa using (List.cons.inj this).1
  exact h h2
theorem vw_final {base : List Nat} (hb : Low base) (hl : base.length ≤ 6) (spot f hop k : Nat) : VW (txt (finalAt base spot f hop k)) ∧ txt (finalAt base spot f hop k) ∉ barred := by
  have hw := low_wordAt (spot := spot) hb (sign_lo f hop k).1 (sign_lo f hop k).2
  have hlen := len_wordAt base spot (signAt f hop k)
  have nb : txt (finalAt base spot f hop k) ∉ barred := by
    intro hm
    have he := barred_end _ hm
    rw [codes_txt] at he
    by_cases h1 : 26 ≤ k
    · unfold finalAt at he
      simp only [h1, if_true] at he
      exact (he 113 (by simp)).1 rfl
    · by_cases h2 : txt (wordAt base spot (signAt f hop k)) ∈ barred
      · unfold finalAt at he
        simp only [h1, if_false, h2, if_true] at he
        exact (he 122 (by simp)).2 rfl
      · unfold finalAt at hm
        simp only [h1, if_false, h2, if_false, List.append_nil] at hm
  refine ⟨⟨?_, ?_, ?_, fun h => nb (mem_resd h)⟩, nb⟩
  · rw [codes_txt]
    unfold finalAt
    intro c hc
    rcases List.mem_append.mp hc with hc | hc
    · exact hw c hc
    · split at hc
      · have : c = 113 := by simpa using hc
        omega
      · split at hc
        · have : c = 122 := by simpa using hc
          omega
        · cases hc
  · rw [codes_txt]
    intro e
    have : (finalAt base spot f hop k).length = 0 := by rw [e]; rfl
    unfold finalAt at this
    rw [List.length_append, hlen] at this
    omega
  · rw [codes_txt]
    unfold finalAt
    rw [List.length_append, hlen]
    split
    · show base.length + 1 + 1 ≤ 8; omega
    · split
      · show base.length + 1 + 1 ≤ 8; omega
      · show base.length + 1 + 0 ≤ 8; omega
theorem final_ne {base : List Nat} {spot f hop i j : Nat} (hh : hop ∈ [1, 3, 5, 7, 9, 11]) (h1 : i < j) (hj : j < 32) : finalAt base spot f hop i ≠ finalAt base spot f hop j := by
  have li := len_wordAt base spot (signAt f hop i)
  have lj := len_wordAt base spot (signAt f hop j)
  intro e
  have key : ∀ {w1 w2 : List Nat} {a b : Nat}, w1 ++ [a] = w2 ++ [b] → w1 = w2 ∧ a = b := by
    intro w1 w2 a b h
    have := List.append_inj' h rfl
    exact ⟨this.1, by simpa using this.2⟩
  unfold finalAt at e
  by_cases c1 : 26 ≤ i
  · have c2 : 26 ≤ j := by omega
    simp only [c1, c2, if_true] at e
    exact word_ne (sign_ne hh h1 (by omega)) (key e).1
  · by_cases c2 : 26 ≤ j
    · simp only [c1, if_false, c2, if_true] at e
      by_cases c3 : txt (wordAt base spot (signAt f hop i)) ∈ barred
      · simp only [c3, if_true] at e
        exact absurd (key e).2 (by decide)
      · simp only [c3, if_false, List.append_nil] at e
        have := congrArg List.length e
        rw [List.length_append, li, lj] at this
        simp at this
    · have hs : wordAt base spot (signAt f hop i) ≠ wordAt base spot (signAt f hop j) := word_ne (sign_ne hh h1 (by omega))
      simp only [c1, if_false, c2] at e
      by_cases c3 : txt (wordAt base spot (signAt f hop i)) ∈ barred
      · by_cases c4 : txt (wordAt base spot (signAt f hop j)) ∈ barred
        · simp only [c3, c4, if_true] at e
          exact hs (key e).1
        · simp only [c3, c4, if_true, if_false, List.append_nil] at e
          have := congrArg List.length e
          rw [List.length_append, li, lj] at this
          simp at this
      · by_cases c4 : txt (wordAt base spot (signAt f hop j)) ∈ barred
        · simp only [c3, c4, if_true, if_false, List.append_nil] at e
          have := congrArg List.length e
          rw [List.length_append, li, lj] at this
          simp at this
        · simp only [c3, c4, if_false, List.append_nil] at e
          exact hs e
def finals (base : List Nat) (spot f hop n : Nat) : List Str := (List.range n).map fun k => txt (finalAt base spot f hop k)
/-- what words are for the law: so many unlike words, none of them error or vacant -/
structure Words (ws : List Str) : Prop where
  vw : ∀ x ∈ ws, VW x
  nb : ∀ x ∈ ws, x ∉ barred
  nd : ws.Nodup
  fr : Str.ofString "ne" ∉ ws ∨ Str.ofString "newer" ∉ ws
theorem final_len (base : List Nat) (spot f hop k : Nat) : (finalAt base spot f hop k).length = base.length + 1 ∨ (finalAt base spot f hop k).length = base.length + 2 := by
  unfold finalAt
  rw [List.length_append, len_wordAt]
  split
  · right; rfl
  · split
    · right; rfl
    · left; rfl
theorem nodup_of_inj {α : Type} {f : Nat → α} {n : Nat} (h : ∀ i j, i < j → j < n → f i ≠ f j) : ((List.range n).map f).Nodup := by
  unfold List.Nodup
  rw [List.pairwise_map]
  refine List.Pairwise.imp_of_mem ?_ (List.pairwise_lt_range (n := n))
  intro a b _ hb hab
  exact h a b hab (List.mem_range.mp hb)
theorem words_finals {base : List Nat} (hb : Low base) (hl : base.length ≤ 6) {hop : Nat} (hh : hop ∈ [1, 3, 5, 7, 9, 11]) {n : Nat} (hn : n ≤ 32) (spot f : Nat) : Words (finals base spot f hop n) := by
  have fr : Str.ofString "ne" ∉ finals base spot f hop n ∨ Str.ofString "newer" ∉ finals base spot f hop n := by
    by_cases h1 : Str.ofString "ne" ∈ finals base spot f hop n
    · refine .inr fun h2 => ?_
      obtain ⟨i, _, e1⟩ := List.mem_map.mp h1
      obtain ⟨j, _, e2⟩ := List.mem_map.mp h2
      have l1 := congrArg (fun x => (codes x).length) e1
      have l2 := congrArg (fun x => (codes x).length) e2
      simp only [codes_txt] at l1 l2
      have n1 : (codes (Str.ofString "ne")).length = 2 := by decide +kernel
      have n2 : (codes (Str.ofString "newer")).length = 5 := by decide +kernel
      rw [n1] at l1
      rw [n2] at l2
      have a := final_len base spot f hop i
      have b := final_len base spot f hop j
      omega
    · exact .inl h1
  refine ⟨fun x hx => ?_, fun x hx => ?_, ?_, fr⟩
  · obtain ⟨k, _, rfl⟩ := List.mem_map.mp hx
    exact (vw_final hb hl spot f hop k).1
  · obtain ⟨k, _, rfl⟩ := List.mem_map.mp hx
    exact (vw_final hb hl spot f hop k).2
  · refine nodup_of_inj fun i j h1 h2 e => final_ne (base := base) (spot := spot) (f := f) hh h1 (by omega) ?_
    have := congrArg codes e
    rwa [codes_txt, codes_txt] at this
theorem barred_two : ∀ b ∈ barred, 2 ≤ (codes b).length ∧ (codes b)[0]? ≠ (codes b)[1]? := by decide +kernel
def reps (c n : Nat) : List Str := (List.range n).map fun k => txt (List.replicate (k + 1) c)
theorem words_reps {c : Nat} (h1 : 97 ≤ c) (h2 : c ≤ 122) {n : Nat} (hn : n ≤ 8) : Words (reps c n) := by
  have nb : ∀ k, txt (List.replicate (k + 1) c) ∉ barred := by
    intro k hm
    have := barred_two _ hm
    rw [codes_txt] at this
    rw [List.length_replicate] at this
    apply this.2
    rw [List.getElem?_replicate, List.getElem?_replicate, if_pos (by omega), if_pos (by omega)]
  have fr : Str.ofString "ne" ∉ reps c n := fun h => by
    obtain ⟨k, _, e⟩ := List.mem_map.mp h
    have q := congrArg codes e
    rw [codes_txt] at q
    have n1 : codes (Str.ofString "ne") = [110, 101] := by decide +kernel
    rw [n1] at q
    have m1 : (110 : Nat) ∈ List.replicate (k + 1) c := by rw [q]; simp
    have m2 : (101 : Nat) ∈ List.replicate (k + 1) c := by rw [q]; simp
    have := List.eq_of_mem_replicate m1
    have := List.eq_of_mem_replicate m2
    omega
  refine ⟨fun x hx => ?_, fun x hx => ?_, ?_, .inl fr⟩
  · obtain ⟨k, hk, rfl⟩ := List.mem_map.mp hx
    have hk := List.mem_range.mp hk
    refine ⟨?_, ?_, ?_, fun h => nb k (mem_resd h)⟩
    · rw [codes_txt]
      intro d hd
      have := List.eq_of_mem_replicate hd
      omega
    · rw [codes_txt]
      intro e
      have := congrArg List.length e
      rw [List.length_replicate] at this
      simp at this
    · rw [codes_txt, List.length_replicate]
      omega
  · obtain ⟨k, hk, rfl⟩ := List.mem_map.mp hx
    exact nb k
  · refine nodup_of_inj fun i j h1 h2 e => ?_
    have := congrArg (fun x => (codes x).length) e
    simp only [codes_txt, List.length_replicate] at this
    omega
theorem Words.rev {ws : List Str} (h : Words ws) : Words ws.reverse := ⟨fun x hx => h.vw x (List.mem_reverse.mp hx), fun x hx => h.nb x (List.mem_reverse.mp hx), by
  have := h.nd
  unfold List.Nodup at *
  rw [List.pairwise_reverse]
  exact this.imp fun h e => h e.symm, h.fr.imp (fun q m => q (List.mem_reverse.mp m)) fun q m => q (List.mem_reverse.mp m)⟩
end K2
end
section
set_option autoImplicit true
namespace K2
open PySem

def base0 : List Str := [sErr, sVac]
structure RowOk (known : List Str) (r : Row) : Prop where
  vw : VW r.1
  new : r.1 ∉ known
  ne : r.2 ≠ []
  nd : r.2.Nodup
  sub : ∀ b ∈ r.2, b ∈ known
def knownAt (rs : List Row) (i : Nat) : List Str := base0 ++ (rs.take i).map (·.1)
def Good (rs : List Row) : Prop := ∀ (i : Nat) (r : Row), rs[i]? = some r → RowOk (knownAt rs i) r
theorem good_nil : Good [] := fun i r h => by simp at h
theorem good_snoc {rs : List Row} {r : Row} (g : Good rs) (h : RowOk (base0 ++ rs.map (·.1)) r) : Good (rs ++ [r]) := by
  intro i q hq
  by_cases hi : i < rs.length
  · rw [List.getElem?_append_left hi] at hq
    have := g i q hq
    unfold knownAt at *
    rw [List.take_append_of_le_length (by omega)]
    exact this
  · have hi2 : i = rs.length := by
      have := (List.getElem?_eq_some_iff.mp hq).1
      rw [List.length_append, List.length_singleton] at this
      omega
    subst hi2
    rw [List.getElem?_append_right (Nat.le_refl _), Nat.sub_self] at hq
    simp at hq
    subst hq
    unfold knownAt
    rw [List.take_append_of_le_length (Nat.le_refl _), List.take_length]
    exact h
theorem vw_base0 : ∀ x ∈ base0, VW x := by
  intro x hx
  unfold base0 at hx
  rcases List.mem_cons.mp hx with rfl | hx
  · exact vw_err
  · have : x = sVac := by simpa using hx
    subst this
    exact vw_vac
theorem Good.vw_known {rs : List Row} (g : Good rs) (i : Nat) : ∀ x ∈ knownAt rs i, VW x := by
  intro x hx
  rcases List.mem_append.mp hx with hx | hx
  · exact vw_base0 x hx
  · obtain ⟨r, hr, rfl⟩ := List.mem_map.mp hx
    obtain ⟨j, hj⟩ := List.getElem?_of_mem (List.mem_of_mem_take hr)
    exact (g j r hj).vw
theorem knownAt_len {rs : List Row} {i : Nat} (h : i ≤ rs.length) : (knownAt rs i).length = i + 2 := by
  unfold knownAt base0
  simp [List.length_take]
  omega
theorem knownAt_succ {rs : List Row} {i : Nat} {r : Row} (h : rs[i]? = some r) : knownAt rs (i + 1) = knownAt rs i ++ [r.1] := by
  unfold knownAt
  rw [List.take_add_one, h]
  simp
theorem base0_nd : base0.Nodup := by
  unfold base0
  simp [err_ne_vac]
theorem Good.nodup {rs : List Row} (g : Good rs) : ∀ i, i ≤ rs.length → (knownAt rs i).Nodup
  | 0, _ => by simpa [knownAt] using base0_nd
  | i + 1, h => by
    have hi : rs[i]? = some rs[i] := List.getElem?_eq_getElem (by omega)
    rw [knownAt_succ hi]
    refine List.nodup_append.mpr ⟨g.nodup i (by omega), by simp, ?_⟩
    intro a ha b hb e
    have : b = rs[i].1 := by simpa using hb
    subst this
    subst e
    exact (g i _ hi).new ha
/-- the rows of words, with any bases among those known -/
def namesOf (rs : List Row) : List Str := rs.map (·.1)
structure Sub1 (r q : Row) : Prop where
  nm : q.1 = r.1
  sl : q.2.Sublist r.2
  ne : q.2 ≠ []
theorem good_sub {rs qs : List Row} (g : Good rs) (hl : qs.length = rs.length) (h : ∀ (i : Nat) (r q : Row), rs[i]? = some r → qs[i]? = some q → Sub1 r q) : Good qs := by
  have en : ∀ i, (qs.take i).map (·.1) = (rs.take i).map (·.1) := by
    intro i
    apply List.ext_getElem?
    intro j
    rw [List.getElem?_map, List.getElem?_map, List.getElem?_take, List.getElem?_take]
    split
    · by_cases hj : j < rs.length
      · have h1 : rs[j]? = some rs[j] := List.getElem?_eq_getElem hj
        have h2 : qs[j]? = some qs[j] := List.getElem?_eq_getElem (by omega)
        rw [h1, h2]
        simp [(h j _ _ h1 h2).nm]
      · rw [List.getElem?_eq_none (by omega), List.getElem?_eq_none (by omega)]
    · rfl
  intro i q hq
  have hi : i < rs.length := by
    have := (List.getElem?_eq_some_iff.mp hq).1
    omega
  have h1 : rs[i]? = some rs[i] := List.getElem?_eq_getElem hi
  have k := h i _ _ h1 hq
  have R := g i _ h1
  unfold knownAt at *
  rw [en i]
  refine ⟨by rw [k.nm]; exact R.vw, by rw [k.nm]; exact R.new, k.ne, R.nd.sublist k.sl, fun b hb => R.sub b (k.sl.subset hb)⟩

/-! ### what is within what -/
abbrev Tb := List (Str × List Str)
def look : Tb → Str → List Str
  | [], _ => []
  | (k, u) :: t, x => if k = x then u else look t x
def keys (t : Tb) : List Str := t.map (·.1)
def insK (ks : List Str) (x : Str) : List Str := if x ∈ ks then ks else ks ++ [x]
def mergeU (m us : List Str) : List Str := m ++ us.filter fun u => decide (u ∉ m)
def lineL (t : Tb) (m : List Str) (bs : List Str) : List Str := bs.foldl (fun m b => mergeU m (look t b)) m
def lineOf (t : Tb) (r : Row) : List Str := lineL t [r.1] r.2
def t0 : Tb := [(sErr, [sErr]), (sVac, [sVac, sErr])]
def stepT (t : Tb) (r : Row) : Tb := t ++ [(r.1, lineOf t r)]
def ups (rs : List Row) : Tb := rs.foldl stepT t0
theorem ups_succ {rs : List Row} {i : Nat} {r : Row} (h : rs[i]? = some r) : ups (rs.take (i + 1)) = stepT (ups (rs.take i)) r := by
  unfold ups
  rw [List.take_add_one, h]
  simp
theorem ups_snoc (rs : List Row) (r : Row) : ups (rs ++ [r]) = stepT (ups rs) r := by unfold ups; simp
theorem keys_ups (rs : List Row) : keys (ups rs) = base0 ++ rs.map (·.1) := by
  have h : ∀ (rs : List Row) (t : Tb), keys (rs.foldl stepT t) = keys t ++ rs.map (·.1) := by
    intro rs
    induction rs with
    | nil => intro t; simp
    | cons r rs ih =>
      intro t
      rw [List.foldl_cons, ih]
      simp [keys, stepT]
  exact h rs t0
theorem keys_ups_take (rs : List Row) (i : Nat) : keys (ups (rs.take i)) = knownAt rs i := keys_ups _
theorem foldl_insK : ∀ (us ks : List Str), us.Nodup → us.foldl insK ks = mergeU ks us
  | [], ks, _ => by simp [mergeU]
  | u :: us, ks, h => by
    have h1 := List.nodup_cons.mp h
    rw [List.foldl_cons, foldl_insK us _ h1.2]
    unfold insK mergeU
    by_cases hu : u ∈ ks
    · rw [if_pos hu, List.filter_cons]
      simp [hu]
    · rw [if_neg hu, List.filter_cons]
      simp only [hu, not_false_eq_true, decide_true, if_true]
      rw [List.append_assoc, List.singleton_append]
      congr 2
      apply List.filter_congr
      intro x hx
      have : x ≠ u := fun e => h1.1 (e ▸ hx)
      simp [this]
structure LineOk (pre : List Str) (x : Str) (us : List Str) : Prop where
  nd : us.Nodup
  self : x ∈ us
  err : sErr ∈ us
  sub : ∀ u ∈ us, u = x ∨ u ∈ pre
def TOk (t : Tb) : Prop := ∀ a x us b, t = a ++ (x, us) :: b → LineOk (keys a) x us ∧ x ∉ keys a
theorem tok_t0 : TOk t0 := by
  intro a x us b h
  unfold t0 at h
  rcases a with _ | ⟨p, a⟩
  · simp at h
    obtain ⟨⟨rfl, rfl⟩, _⟩ := h
    exact ⟨⟨by simp, by simp, by simp, by simp⟩, by simp [keys]⟩
  · rcases a with _ | ⟨q, a⟩
    · simp at h
      obtain ⟨rfl, ⟨rfl, rfl⟩, _⟩ := h
      refine ⟨⟨by simp [err_ne_vac.symm], by simp, by simp, ?_⟩, ?_⟩
      · intro u hu
        simp [keys] at *
        exact hu
      · simp [keys, err_ne_vac.symm]
    · simp at h
theorem look_mem : ∀ {t : Tb} {x : Str}, x ∈ keys t → ∃ a b, t = a ++ (x, look t x) :: b
  | [], x, h => by simp [keys] at h
  | (k, u) :: t, x, h => by
    by_cases e : k = x
    · subst e
      refine ⟨[], t, ?_⟩
      simp [look]
    · have h2 : x ∈ keys t := by
        unfold keys at *
        rcases List.mem_cons.mp h with e2 | h2
        · exact absurd e2.symm e
        · exact h2
      obtain ⟨a, b, hab⟩ := look_mem h2
      refine ⟨(k, u) :: a, b, ?_⟩
      simp only [look, if_neg e, List.cons_append]
      rw [← hab]
theorem keys_mid {a b : Tb} {x : Str} {us : List Str} : keys (a ++ (x, us) :: b) = keys a ++ x :: keys b := by simp [keys]
theorem TOk.line {t : Tb} (T : TOk t) {x : Str} (h : x ∈ keys t) : (look t x).Nodup ∧ x ∈ look t x ∧ sErr ∈ look t x ∧ ∀ u ∈ look t x, u ∈ keys t := by
  obtain ⟨a, b, e⟩ := look_mem h
  obtain ⟨L, _⟩ := T a x (look t x) b e
  refine ⟨L.nd, L.self, L.err, fun u hu => ?_⟩
  rw [e, keys_mid]
  rcases L.sub u hu with rfl | hu
  · simp
  · exact List.mem_append_left _ hu
theorem TOk.nodup : ∀ {t : Tb}, TOk t → (keys t).Nodup := by
  intro t T
  have h : ∀ (b a : Tb), t = a ++ b → (keys a).Nodup → (keys t).Nodup := by
    intro b
    induction b with
    | nil => intro a e h; rw [e, List.append_nil]; exact h
    | cons p b ih =>
      intro a e h
      obtain ⟨x, us⟩ := p
      refine ih (a ++ [(x, us)]) (by rw [e]; simp) ?_
      have := (T a x us b e).2
      unfold keys at *
      rw [List.map_append]
      refine List.nodup_append.mpr ⟨h, by simp, ?_⟩
      intro c hc d hd q
      have : d = x := by simpa using hd
      subst this
      subst q
      contradiction
  exact h t [] (by simp) (by simp [keys])
theorem split_uniq {a b c d : Tb} {x : Str} {us vs : List Str} (h : a ++ (x, us) :: b = c ++ (x, vs) :: d) (ha : x ∉ keys a) (hc : x ∉ keys c) : a = c := by
  induction a generalizing c with
  | nil =>
    rcases c with _ | ⟨q, c⟩
    · rfl
    · simp at h
      exfalso
      apply hc
      rw [← h.1]
      simp [keys]
  | cons p a ih =>
    rcases c with _ | ⟨q, c⟩
    · simp at h
      exfalso
      apply ha
      rw [h.1]
      simp [keys]
    · simp only [List.cons_append, List.cons.injEq] at h
      rw [h.1, ih h.2 (fun m => ha (by unfold keys at *; exact List.mem_cons_of_mem _ m)) (fun m => hc (by unfold keys at *; exact List.mem_cons_of_mem _ m))]
theorem TOk.back {t : Tb} (T : TOk t) {x y : Str} (hx : x ∈ keys t) (hy : y ∈ look t x) (ne : y ≠ x) : x ∉ look t y := by
  intro hxy
  obtain ⟨a, b, e⟩ := look_mem hx
  obtain ⟨L, hn⟩ := T a x _ b e
  have hya : y ∈ keys a := (L.sub y hy).resolve_left ne
  have hyt : y ∈ keys t := by rw [e, keys_mid]; exact List.mem_append_left _ hya
  obtain ⟨c, d, e2⟩ := look_mem hyt
  obtain ⟨M, hm⟩ := T c y _ d e2
  have hxc : x ∈ keys c := (M.sub x hxy).resolve_left ne.symm
  -- y stands in a, so c is a beginning of a
  obtain ⟨a1, a2, e3⟩ := look_mem hya
  have e4 : t = a1 ++ (y, look a y) :: (a2 ++ (x, look t x) :: b) := by
    rw [List.append_cons, ← List.append_assoc] 
    conv => lhs; rw [e, e3]
    simp
  have hm2 : y ∉ keys a1 := (T a1 y _ _ e4).2
  have : c = a1 := split_uniq (e2.symm.trans e4) hm hm2
  subst this
  apply hn
  rw [e3, keys_mid]
  exact List.mem_append_left _ hxc
theorem mergeU_ok {t : Tb} {m us : List Str} (hm : m.Nodup) (hu : us.Nodup) : (mergeU m us).Nodup := by
  unfold mergeU
  refine List.nodup_append.mpr ⟨hm, hu.filter _, ?_⟩
  intro a ha b hb e
  subst e
  have := (List.mem_filter.mp hb).2
  simp at this
  exact this ha
theorem lineL_ok {t : Tb} (T : TOk t) {x : Str} : ∀ (bs m : List Str), (∀ b ∈ bs, b ∈ keys t) → m.Nodup → (∀ u ∈ m, u = x ∨ u ∈ keys t) →
    (lineL t m bs).Nodup ∧ (∀ u ∈ lineL t m bs, u = x ∨ u ∈ keys t) ∧ (∀ u ∈ m, u ∈ lineL t m bs) ∧ (bs ≠ [] → sErr ∈ lineL t m bs)
  | [], m, _, h1, h2 => ⟨h1, h2, fun u hu => hu, fun h => absurd rfl h⟩
  | b :: bs, m, hb, h1, h2 => by
    have L := T.line (hb b List.mem_cons_self)
    have n1 := mergeU_ok (t := t) h1 L.1
    have s1 : ∀ u ∈ mergeU m (look t b), u = x ∨ u ∈ keys t := by
      intro u hu
      rcases List.mem_append.mp hu with hu | hu
      · exact h2 u hu
      · exact .inr (L.2.2.2 u (List.mem_filter.mp hu).1)
    obtain ⟨q1, q2, q3, q4⟩ := lineL_ok T bs (mergeU m (look t b)) (fun c hc => hb c (List.mem_cons_of_mem _ hc)) n1 s1
    refine ⟨q1, q2, fun u hu => q3 u (List.mem_append_left _ hu), fun _ => ?_⟩
    apply q3
    by_cases he : sErr ∈ m
    · exact List.mem_append_left _ he
    · exact List.mem_append_right _ (List.mem_filter.mpr ⟨L.2.2.1, by simpa using he⟩)
theorem tok_step {t : Tb} (T : TOk t) {r : Row} (R : RowOk (keys t) r) : TOk (stepT t r) := by
  intro a x us b e
  unfold stepT at e
  rcases List.eq_nil_or_concat b with rfl | ⟨b', z, rfl⟩
  · have := List.append_inj' e rfl
    obtain ⟨rfl, e2⟩ := this
    simp at e2
    obtain ⟨rfl, rfl⟩ := e2
    have := lineL_ok T (x := r.1) r.2 [r.1] R.sub (by simp) (by simp)
    exact ⟨⟨this.1, this.2.2.1 _ (by simp), this.2.2.2 R.ne, this.2.1⟩, R.new⟩
  · rw [List.concat_eq_append, ← List.cons_append, ← List.append_assoc] at e
    have := List.append_inj' e rfl
    exact T a x us b' this.1
theorem tok_ups {rs : List Row} (g : Good rs) : ∀ i, i ≤ rs.length → TOk (ups (rs.take i))
  | 0, _ => by simpa [ups] using tok_t0
  | i + 1, h => by
    have hi : rs[i]? = some rs[i] := List.getElem?_eq_getElem (by omega)
    rw [ups_succ hi]
    refine tok_step (tok_ups g i (by omega)) ?_
    rw [keys_ups_take]
    exact g i _ hi
end K2
end
section
set_option Elab.async false
set_option maxRecDepth 100000
set_option linter.all false
namespace K2
open PySem L2
/-! ### the text by places -/
def top (i : Nat) : Stmt := PySem.Challenge.pw_whatleaves_k01_rows_and_names.main.body.getD i (.Pass ⟨0, 0, 0, 0⟩)
abbrev sDraw : Stmt := top 17
abbrev sPick : Stmt := top 18
/-! ### what the built-in names hold -/
structure Bi (mg : Str → Option Value) : Prop where
  len : mg "len" = none
  int : mg "int" = none
  abs : mg "abs" = none
  range : mg "range" = none
  list : mg "list" = none
  tuple : mg "tuple" = none
  enumerate : mg "enumerate" = none
  isinstance : mg "isinstance" = none
  str : mg "str" = none
  set : mg "set" = none
  all : mg "all" = none
  repr : mg "repr" = none
/-! ### the pen -/
def penO (c : Addr) (a l : Int) : HO := .lst [.ref c, .int a, .int l]
structure Pen (H : Hp) (p c : Addr) (ns : List Int) (n : Nat) : Prop where
  pen : ∃ a l : Int, H p = some (penO c a l) ∧ 0 ≤ a ∧ a ≤ n ∧ 0 ≤ l
  cells : H c = some (.lst (ns.map V.int))
  small : ns.length ≤ 63
def Keep (p : Addr) (H H' : Hp) : Prop := ∀ b o, H b = some o → b ≠ p → H' b = some o
theorem Keep.refl (p : Addr) (H : Hp) : Keep p H H := fun _ _ h _ => h
theorem Keep.trans {p : Addr} {H H1 H2 : Hp} (a : Keep p H H1) (b : Keep p H1 H2) : Keep p H H2 := fun c o h n => b c o (a c o h n) n
theorem Keep.new {p q : Addr} {H H1 : Hp} {o : HO} (k : Keep p H H1) (h : H q = none) : Keep p H (upd H1 q o) := fun b u hb n => by
  rw [upd_ne (ne_of_none hb h)]
  exact k b u hb n
theorem Keep.at {p : Addr} {H H1 : Hp} {o : HO} (k : Keep p H H1) : Keep p H (upd H1 p o) := fun b u hb n => by
  rw [upd_ne n]
  exact k b u hb n
theorem Pen.mono {H : Hp} {p c : Addr} {ns : List Int} {n m : Nat} (h : Pen H p c ns n) (e : n ≤ m) : Pen H p c ns m := by
  obtain ⟨a, l, h1, h2, h3, h4⟩ := h.pen
  exact ⟨⟨a, l, h1, h2, by omega, h4⟩, h.cells, h.small⟩
theorem Pen.ne {H : Hp} {p c : Addr} {ns : List Int} {n : Nat} (h : Pen H p c ns n) : c ≠ p := by
  obtain ⟨a, l, h1, _⟩ := h.pen
  refine ne_of h.cells h1 ?_
  unfold penO
  intro e
  injection e with e
  cases ns with
  | nil => simp at e
  | cons n ns => simp at e
/-- the pen behind a new object -/
theorem Pen.new {H : Hp} {p c q : Addr} {ns : List Int} {n : Nat} {o : HO} (h : Pen H p c ns n) (hq : H q = none) : Pen (upd H q o) p c ns n := by
  obtain ⟨a, l, h1, h2, h3, h4⟩ := h.pen
  exact ⟨⟨a, l, by rw [upd_ne (ne_of_none h1 hq)]; exact h1, h2, h3, h4⟩, by rw [upd_ne (ne_of_none h.cells hq)]; exact h.cells, h.small⟩
/-- the pen behind a store elsewhere -/
theorem Pen.upd' {H : Hp} {p c q : Addr} {ns : List Int} {n : Nat} {o : HO} (h : Pen H p c ns n) (h1 : p ≠ q) (h2 : c ≠ q) : Pen (upd H q o) p c ns n := by
  obtain ⟨a, l, g1, g2, g3, g4⟩ := h.pen
  exact ⟨⟨a, l, by rw [upd_ne h1]; exact g1, g2, g3, g4⟩, by rw [upd_ne h2]; exact h.cells, h.small⟩
theorem Pen.set {H : Hp} {p c : Addr} {ns : List Int} {n m : Nat} (h : Pen H p c ns n) {a l : Int} (h1 : 0 ≤ a) (h2 : a ≤ m) (h3 : 0 ≤ l) : Pen (upd H p (penO c a l)) p c ns m :=
  ⟨⟨a, l, upd_same, h1, h2, h3⟩, by rw [upd_ne h.ne]; exact h.cells, h.small⟩

def spDraw : Sp := fun vs H Q _ => ∃ (p c : Addr) (ns : List Int) (n : Nat) (m : Int), vs = [.ref p, .int m] ∧ Pen H p c ns n ∧ n ≤ 100000 ∧ 0 < m ∧ m < 1073741824 ∧
  ∀ (v : Int) (H' : Hp), 0 ≤ v → v < m → Keep p H H' → Pen H' p c ns (n + 1) → Q (.int v) H'

section
variable {P : Program} {w : World} {K : PySem.W.Frag} {mg : Str → Option Value} {base : Heap}
abbrev nDraw : List Str := ["_law_pen_here", "_law_many", "_law_digit", "_law_at", "_law_cell", "_law_great", "_law_mixed_here"]
theorem scDraw : FnScope nDraw ["_law_pen_here", "_law_many"] (defScope sDraw) := ⟨rfl, rfl, rfl, by decide +kernel, rfl, by decide +kernel, by decide +kernel⟩
theorem fmod_lo {a m : Int} (h : 0 < m) : 0 ≤ a.fmod m := Int.fmod_nonneg_of_pos a h
theorem fmod_hi {a m : Int} (h : 0 < m) : a.fmod m < m := Int.fmod_lt_of_pos a h
theorem fdiv_nn {a m : Int} (ha : 0 ≤ a) (h : 0 < m) : 0 ≤ a.fdiv m := Int.fdiv_nonneg ha (Int.le_of_lt h)
theorem mul_bnd {x y X Y : Int} (h1 : 0 ≤ x) (h2 : x ≤ X) (h3 : 0 ≤ y) (h4 : y ≤ Y) : 0 ≤ x * y ∧ x * y ≤ X * Y :=
  ⟨Int.mul_nonneg h1 h3, Int.mul_le_mul h2 h4 h3 (Int.le_trans h1 h2)⟩
theorem ints_dp (K : PySem.W.Frag) (H : Hp) : ∀ ns : List Int, DpAll K H (ns.map V.int) (ns.map PyData.int)
  | [] => .nil
  | n :: ns => .cons (.int n) (ints_dp K H ns)
theorem canLay_ints : ∀ ns : List Int, PyData.canLayAll0 (ns.map PyData.int) = true
  | [] => rfl
  | n :: ns => by
    show (true && PyData.canLayAll0 (ns.map PyData.int)) = true
    rw [canLay_ints ns]
    rfl
theorem depth_ints : ∀ ns : List Int, PyData.depthAll (ns.map PyData.int) = 0
  | [] => rfl
  | n :: ns => by
    show max 0 (PyData.depthAll (ns.map PyData.int)) = 0
    rw [depth_ints ns]
    rfl
theorem shaped_ints (ns : List Int) : SeqAt.shaped (.list (ns.map PyData.int)) = true := by
  show (PyData.canLayAll0 (ns.map PyData.int) && decide (PyData.depthAll (ns.map PyData.int) + 1 ≤ 64)) = true
  rw [canLay_ints, depth_ints]
  rfl
theorem eqv_nil (ns : List Int) : (!PyData.eqv (.list (ns.map PyData.int)) (.list [])) = !ns.isEmpty := by
  cases ns <;> rfl
theorem len_pos_lt {n : Nat} {a : Int} (h : 0 < n) : 0 ≤ a.fmod (n : Int) ∧ a.fmod (n : Int) < n := ⟨fmod_lo (by omega), fmod_hi (by omega)⟩
theorem ok_draw {f : Addr} {fd : FuncData} (F : Fun K "_law_draw" "_law_draw" sDraw f fd) (T : Bi mg) : FnOk P w K mg base CX0 1 f fd ["_law_pen_here", "_law_many"] spDraw := by
  refine F.ok scDraw (fun vs H Q E h => ?_) (fun cdv A outer s H vs Q E hr h => ?_)
  · obtain ⟨p, c, ns, n, m, rfl, _⟩ := h
    rfl
  · obtain ⟨p, c, ns, n, m, rfl, hP, hn, m0, m1, k⟩ := h
    have hmne : m ≠ 0 := by omega
    have hmab : m.natAbs < 1073741824 := by omega
    obtain ⟨a, l, hp, a0, an, l0⟩ := hP.pen
    unfold penO at hp
    refine ⟨_, (pss_cons (ps_if (pt_cmpR op_gt (pe_ix ix_list (pv 0) pe_int (fun _ _ => rfl)) pe_int (nomark _))
      (pss_cons (ps_set (i := 2) scDraw.nd rfl (Or.inl rfl) (pe_op op_modN (pe_callTy call_int1 (by rfl) T.int (by decide +kernel) (pa_cons (pe_ix ix_list (pv 0) pe_int (fun _ _ => rfl)) pa_nil)) (pv 1)))
        (pss_cons (ps_asg (pe_op op_fdivN (pe_ix ix_list (pv 0) pe_int (fun _ _ => rfl)) (pv 1)) (pg_sub (pv 0) pe_int set_list))
        (pss_one (ps_ret (pv 2)))))
      pss_nil)
      (pss_cons (ps_set (i := 3) scDraw.nd rfl (Or.inl rfl) (pe_ix ix_list (pv 0) pe_int (fun _ _ => rfl)))
      (pss_cons (ps_asg (pe_op op_add (pv 3) pe_int) (pg_sub (pv 0) pe_int set_list))
      (pss_cons (ps_set (i := 4) scDraw.nd rfl (Or.inl rfl) (pe_op op_add (pe_op op_mul pe_int (pv 3)) pe_int))
      (pss_cons (ps_if (pt_cmpR (op_neD hr.units) (pe_ix ix_list (pv 0) pe_int (fun _ _ => rfl)) (pe_lst pa_nil) (nomark _))
      (pss_one (ps_set (i := 4) scDraw.nd rfl (Or.inl rfl) (pe_ix ix_list (pe_ix ix_list (pv 0) pe_int (fun _ _ => rfl)) (pe_op op_modN (pe_callTy call_int1 (by rfl) T.int (by decide +kernel) (pa_cons (pv 3) pa_nil)) (pe_callB call_len_seq (by rfl) T.len PySem.boot_len (pa_cons (pe_ix ix_list (pv 0) pe_int (fun _ _ => rfl)) pa_nil))) (fun _ _ => rfl))))
      pss_nil)
      (pss_cons (ps_if (PW.pt (pw_and (pt_cmpR op_lt (pv 3) (pe_callB call_len_seq (by rfl) T.len PySem.boot_len (pa_cons (pe_ix ix_list (pv 0) pe_int (fun _ _ => rfl)) pa_nil)) (nomark _)) (pw_and1 (pt_cmpR op_ge (pe_callB call_abs (by rfl) T.abs (by decide +kernel) (pa_cons (pv 4) pa_nil)) (pe_op op_pow pe_int pe_int) (nomark _)))))
      (pss_cons (ps_set (i := 5) scDraw.nd rfl (Or.inl rfl) (pe_op op_add (pe_op op_mul pe_int (pe_op op_sub (pe_callB call_abs (by rfl) T.abs (by decide +kernel) (pa_cons (pv 4) pa_nil)) (pe_op op_pow pe_int pe_int))) (pe_callTy call_int1 (by rfl) T.int (by decide +kernel) (pa_cons (pe_cmpR op_lt (pv 4) pe_int (nomark _)) pa_nil))))
        (pss_cons (ps_asg (pe_op op_fdivN (pv 5) (pv 1)) (pg_sub (pv 0) pe_int set_list))
        (pss_one (ps_ret (pe_op op_modN (pe_callTy call_int1 (by rfl) T.int (by decide +kernel) (pa_cons (pv 5) pa_nil)) (pv 1))))))
      pss_nil)
      (pss_cons (ps_set (i := 6) scDraw.nd rfl (Or.inl rfl) (pe_op op_modN (pe_callTy call_int1 (by rfl) T.int (by decide +kernel) (pa_cons (pe_op op_pow (pe_op op_add (pe_op op_add (pe_op op_modN (pe_callTy call_int1 (by rfl) T.int (by decide +kernel) (pa_cons (pv 4) pa_nil)) pe_int) (pe_op op_mul pe_int (pv 3))) pe_int) pe_int) pa_nil)) pe_int))
      (pss_cons (ps_set (i := 6) scDraw.nd rfl (Or.inl rfl) (pe_op op_modN (pe_callTy call_int1 (by rfl) T.int (by decide +kernel) (pa_cons (pe_op op_pow (pe_op op_add (pe_op op_add (pe_op op_mul (pv 6) (pe_op op_add (pe_op op_mul pe_int (pv 3)) pe_int)) (pe_op op_mul (pe_op op_mul pe_int (pv 3)) (pv 3))) pe_int) pe_int) pa_nil)) pe_int))
      (pss_one (ps_ret (pe_op op_modN (pe_callTy call_int1 (by rfl) T.int (by decide +kernel) (pa_cons (pe_op op_fdivN (pv 6) pe_int) pa_nil)) (pv 1)))))))))))), ?_⟩
    refine ⟨_, rfl, p, _, _, _, rfl, rfl, SqL.of hp, atI_nat (j := 2) rfl, _, _, rfl, rfl, _, rfl, ite2 (fun hg => ?_) (fun hg => ?_)⟩
    · have hl := of_decide_eq_true hg
      refine ⟨_, rfl, p, _, _, _, rfl, rfl, SqL.of hp, atI_nat (j := 2) rfl, .inl ⟨_, rfl, _, rfl, _, _, rfl, rfl, hmne, ?_⟩⟩
      refine ⟨_, rfl, p, _, _, _, rfl, rfl, SqL.of hp, atI_nat (j := 2) rfl, _, rfl, _, _, rfl, rfl, ⟨hmne, hmab⟩, _, rfl, p, _, _, 2, rfl, rfl, hp, rfl, _, rfl, ?_⟩
      refine k _ _ (fmod_lo m0) (fmod_hi m0) (Keep.refl _ _).at ?_
      exact hP.set a0 (by omega) (fdiv_nn l0 m0)
    · have hat : a ≤ 100000 := by omega
      -- at = pen[1]; pen[1] = at + 1; cell = 8627 * at + 349; pen[0] != []
      refine ⟨_, rfl, p, _, _, _, rfl, rfl, SqL.of hp, atI_nat (j := 1) rfl, _, rfl, _, _, rfl, rfl, _, rfl, p, _, _, 1, rfl, rfl, hp, rfl, ?_⟩
      generalize hH1 : upd H p (HO.lst ([V.ref c, V.int a, V.int l].set 1 ((fun i j => V.int (i + j)) a 1))) = H1
      replace hH1 : upd H p (.lst [.ref c, .int (a + 1), .int l]) = H1 := hH1
      have hp1 : H1 p = some (.lst [.ref c, .int (a + 1), .int l]) := by rw [← hH1]; exact upd_same
      have hc1 : H1 c = some (.lst (ns.map V.int)) := by rw [← hH1, upd_ne hP.ne]; exact hP.cells
      have k1 : Keep p H H1 := by rw [← hH1]; exact (Keep.refl p H).at
      refine ⟨_, rfl, _, _, rfl, rfl, .inl ⟨by decide, by decide⟩, _, _, rfl, rfl, ?_⟩
      refine ⟨_, rfl, p, _, _, _, rfl, rfl, SqL.of hp1, atI_nat (j := 0) rfl, Nat.zero_le _, fun e he => ?_⟩
      have he0 : H e = none := by
        cases q : H e with
        | none => rfl
        | some o =>
          by_cases ep : e = p
          · rw [ep, hp1] at he; cases he
          · rw [k1 e o q ep] at he; cases he
      have hp2 : (upd H1 e (.lst [])) p = some (.lst [.ref c, .int (a + 1), .int l]) := by rw [upd_ne (ne_of_none hp1 he)]; exact hp1
      have hc2 : (upd H1 e (.lst [])) c = some (.lst (ns.map V.int)) := by rw [upd_ne (ne_of_none hc1 he)]; exact hc1
      have k2 : Keep p H (upd H1 e (.lst [])) := k1.new he0
      have P2 : Pen (upd H1 e (.lst [])) p c ns (n + 1) := ⟨⟨a + 1, l, hp2, by omega, by omega, l0⟩, hc2, hP.small⟩
      have hee : (upd H1 e (.lst [])) e = some (.lst []) := upd_same
      generalize hH2 : upd H1 e (.lst []) = H2 at hp2 hc2 k2 P2 hee ⊢
      refine ⟨.list (ns.map PyData.int), .list [], .lst (SqL.of hc2) (ints_dp _ _ ns), .lst (SqL.of hee) .nil, shaped_ints ns, rfl, _, rfl, ?_⟩
      rw [eqv_nil]
      have hz0 : ns = [] ∨ ∃ z r, ns = z :: r := by cases ns with
        | nil => exact .inl rfl
        | cons z r => exact .inr ⟨z, r, rfl⟩
      have hzc : ∀ j : Nat, j < ns.length → ∃ z : Int, (ns.map V.int)[j]? = some (V.int z) := fun j hj => ⟨ns[j], by rw [List.getElem?_map, List.getElem?_eq_getElem hj]; rfl⟩
      refine ite2 (fun hb => ?b1) (fun hb => ?b2)
      case' b1 =>
        have hlen : 0 < ns.length := by
          cases ns with
          | nil => cases hb
          | cons z r => simp
        have hlen2 : (0 : Int) < ((ns.map V.int).length : Int) := by rw [List.length_map]; omega
        obtain ⟨j, hj⟩ : ∃ j : Nat, a.fmod ((ns.map V.int).length : Int) = (j : Int) := ⟨(a.fmod ((ns.map V.int).length : Int)).toNat, (Int.toNat_of_nonneg (fmod_lo hlen2)).symm⟩
        have hj2 : j < ns.length := by
          have := fmod_hi (a := a) hlen2
          rw [hj, List.length_map] at this
          omega
        obtain ⟨z, hz⟩ := hzc j hj2
        refine ⟨_, rfl, p, _, _, _, rfl, rfl, SqL.of hp2, atI_nat (j := 0) rfl, _, rfl, .inl ⟨_, rfl, _, rfl, p, _, _, _, rfl, rfl, SqL.of hp2, atI_nat (j := 0) rfl, c, _, rfl, .inl (SqL.of hc2), _, _, rfl, rfl, by omega, c, _, _, _, rfl, rfl, SqL.of hc2, at_of hj hz, ?_⟩⟩
      case' b2 => generalize hz9 : (fun i j => V.int (i + j)) (8627 * a) 349 = zz; replace hz9 : zz = .int (8627 * a + 349) := hz9.symm; subst hz9; generalize 8627 * a + 349 = z
      all_goals
        -- at < len(pen[0]) and abs(cell) >= 10 ** 18
        have pw18 : (10 : Int) ^ (18 : Int).toNat = 1000000000000000000 := by decide
        have tl : ∀ (v : Int), 0 ≤ v → v < m → Q (.int v) H2 := fun v h0 h1 => k v H2 h0 h1 k2 P2
        refine (fun t => ⟨_, rfl, _, rfl, p, _, _, _, rfl, rfl, SqL.of hp2, atI_nat (j := 0) rfl, c, _, rfl, .inl (SqL.of hc2), _, _, rfl, rfl, _, rfl, ite2 (fun hq1 =>
          ⟨_, rfl, _, rfl, _, _, rfl, rfl, ⟨by decide, by decide, by decide⟩, _, _, rfl, rfl, _, rfl, ite2 (fun hq2 => ?_) (fun _ => t)⟩) (fun _ => iteF t)⟩) ?_
        · -- mixed
          refine ⟨_, rfl, .inl ⟨_, rfl, _, _, rfl, rfl, (by show (2147483549 : Int) ≠ 0; decide), _, rfl, _, _, rfl, rfl, .inl ⟨by decide, by decide⟩, _, _, rfl, rfl, _, _, rfl, rfl, _, _, rfl, rfl, ⟨by decide, by decide, ?_⟩, .inl ⟨_, rfl, _, _, rfl, rfl, (by show (2147483629 : Int) ≠ 0; decide), ?_⟩⟩⟩
          · have h1 := fmod_lo (a := z) (m := 2147483549) (by decide)
            have h2 := fmod_hi (a := z) (m := 2147483549) (by decide)
            generalize z.fmod 2147483549 = y at h1 h2 ⊢
            omega
          have g1 := fmod_lo (a := (z.fmod 2147483549 + 52361 * a + 71) ^ (3 : Int).toNat) (m := 2147483629) (by decide)
          have g2 := fmod_hi (a := (z.fmod 2147483549 + 52361 * a + 71) ^ (3 : Int).toNat) (m := 2147483629) (by decide)
          have b1 := mul_bnd (X := 2147483629) (y := 2 * a + 53) (Y := 200053) g1 (Int.le_of_lt g2) (by omega) (by omega)
          have b2 := mul_bnd (x := 61417 * a) (X := 6141700000) (y := a) (Y := 100000) (by omega) (by omega) a0 hat
          refine ⟨_, rfl, _, rfl, _, _, rfl, rfl, .inl ⟨by decide, by decide⟩, _, _, rfl, rfl, _, _, rfl, rfl, .inl ⟨?_, ?_⟩, _, rfl, _, _, rfl, rfl, .inl ⟨by decide, by decide⟩, _, rfl, _, _, rfl, rfl, .inl ⟨?_, ?_⟩, _, _, rfl, rfl, _, _, rfl, rfl, _, _, rfl, rfl, ⟨by decide, by decide, ?_⟩, .inl ⟨_, rfl, _, _, rfl, rfl, (by show (2147483587 : Int) ≠ 0; decide), ?_⟩⟩
          · omega
          · omega
          · omega
          · omega
          · omega
          have g3 := fmod_lo (a := ((((z.fmod 2147483549 + 52361 * a + 71) ^ (3 : Int).toNat).fmod 2147483629) * (2 * a + 53) + 61417 * a * a + 23) ^ (5 : Int).toNat) (m := 2147483587) (by decide)
          refine ⟨_, rfl, _, _, rfl, rfl, ⟨by decide, by decide⟩, .inl ⟨_, rfl, _, rfl, _, _, rfl, rfl, hmne, tl _ (fmod_lo m0) (fmod_hi m0)⟩⟩
        · -- great
          refine ⟨_, rfl, _, rfl, _, _, rfl, rfl, ⟨by decide, by decide, by decide⟩, _, _, rfl, rfl, _, _, rfl, rfl, .inl ⟨by decide, by decide⟩, _, rfl, _, _, rfl, rfl, .inr ⟨_, rfl, _, _, rfl, rfl, ?_⟩⟩
          refine ⟨_, rfl, _, rfl, _, _, rfl, rfl, ⟨hmne, hmab⟩, _, rfl, p, _, _, 2, rfl, rfl, hp2, rfl, _, rfl, .inl ⟨_, rfl, _, rfl, _, _, rfl, rfl, hmne, ?_⟩⟩
          refine k _ _ (fmod_lo m0) (fmod_hi m0) k2.at (P2.set (by omega) (by omega) (fdiv_nn ?_ m0))
          have hge := of_decide_eq_true hq2
          rw [pw18] at hge ⊢
          split at hge <;> split <;> omega
end
end K2
end
section
set_option Elab.async false
set_option maxRecDepth 100000
set_option linter.all false
namespace K2
open PySem L2
abbrev sBarred : Stmt := top 19
abbrev sWords : Stmt := top 20
/-- a def of the program: its text, where it stands, how it binds -/
structure Df (K : PySem.W.Frag) (mg : Str → Option Value) (x : Str) (st : Stmt) (f : Addr) (fd : FuncData) (ps : List Str) : Prop where
  F : Fun K x x st f fd
  m : mg x = some (.ref f)
  b : Binds K fd ps []
/-- a list of the heap, or a text: its items -/
def SeqV (p : Addr) (H : Hp) (y : V) (xs : List V) : Prop := (∃ l, y = .ref l ∧ l ≠ p ∧ H l = some (.lst xs)) ∨ (∃ z : Str, y = .str z ∧ xs = (codes z).map (fun c => V.str ⟨#[c]⟩) ∧ z.length ≤ 100) ∨ (∃ t, y = .ref t ∧ t ≠ p ∧ H t = some (.tup xs))
def spPick : Sp := fun vs H Q _ => ∃ (p c : Addr) (ns : List Int) (n : Nat) (y : V) (xs : List V), vs = [.ref p, y] ∧ Pen H p c ns n ∧ n ≤ 100000 ∧ SeqV p H y xs ∧ xs ≠ [] ∧ xs.length ≤ 1000 ∧
  ∀ (j : Nat) (v : V) (H' : Hp), xs[j]? = some v → Keep p H H' → Pen H' p c ns (n + 1) → Q v H'
def spBarred : Sp := fun vs H Q _ => vs = [] ∧ ∀ l, H l = none → Q (.ref l) (upd H l (.lst (barred.map V.str)))
section
variable {P : Program} {w : World} {K : PySem.W.Frag} {mg : Str → Option Value} {base : Heap}
theorem scPick : FnScope ["_law_pen_here", "_law_some"] ["_law_pen_here", "_law_some"] (defScope sPick) := ⟨rfl, rfl, rfl, by decide +kernel, rfl, by decide +kernel, by decide +kernel⟩
theorem ok_pick {f fD : Addr} {fd fdD : FuncData} (F : Fun K "_law_pick" "_law_pick" sPick f fd) (T : Bi mg) (D : Df K mg "_law_draw" sDraw fD fdD ["_law_pen_here", "_law_many"]) : FnOk P w K mg base CX0 2 f fd ["_law_pen_here", "_law_some"] spPick := by
  have GD : FnOk P w K mg base CX0 1 fD fdD ["_law_pen_here", "_law_many"] spDraw := ok_draw D.F T
  refine F.ok scPick (fun vs H Q E h => ?_) (fun cdv A outer s H vs Q E hr h => ?_)
  · obtain ⟨p, c, ns, n, y, xs, rfl, _⟩ := h
    rfl
  · obtain ⟨p, c, ns, n, y, xs, rfl, hP, hn, hS, hne, hlen, k⟩ := h
    refine ⟨_, (pss_one (ps_ret (pe_ix ix_seq (pv 1) (pe_call GD hr (by rfl) D.m D.F.kp D.b .nil pass0 (pa_cons (pv 0) (pa_cons (pe_callB call_len (by rfl) T.len PySem.boot_len (pa_cons (pv 1) pa_nil)) pa_nil))) (fun _ _ => rfl)))), ?_⟩
    have hx0 : 0 < xs.length := List.length_pos_iff.mpr hne
    have hL : LenV K y H xs.length := by
      rcases hS with ⟨l, rfl, _, hl⟩ | ⟨z, rfl, rfl, hz⟩ | ⟨t, rfl, _, ht⟩
      · exact .inl ⟨_, SqL.of hl, rfl⟩
      · refine ⟨Nat.le_trans hz (by decide), ?_⟩
        rw [List.length_map]
        rfl
      · exact .inr ⟨_, SqT.of ht, rfl⟩
    refine ⟨_, rfl, _, rfl, _, rfl, _, _, rfl, hL, p, c, ns, n, _, rfl, hP, hn, by omega, by omega, fun v H' h0 h1 kp P' => ?_⟩
    obtain ⟨j, rfl⟩ : ∃ j : Nat, v = (j : Int) := ⟨v.toNat, (Int.toNat_of_nonneg h0).symm⟩
    have hj : j < xs.length := by omega
    have hv : xs[j]? = some xs[j] := List.getElem?_eq_getElem hj
    rcases hS with ⟨l, rfl, hlp, hl⟩ | ⟨z, rfl, rfl, hz⟩ | ⟨t, rfl, htp, ht⟩
    · exact .inl ⟨l, xs, _, _, rfl, rfl, SqL.of (kp l _ hl hlp), atI_nat hv, k j _ H' hv kp P'⟩
    · refine .inr (.inr ⟨z, _, (codes z)[j]'(by rw [List.length_map] at hj; exact hj), rfl, rfl, Nat.le_trans hz (by decide), atI_nat (List.getElem?_eq_getElem _), k j _ H' ?_ kp P'⟩)
      rw [List.getElem?_map, List.getElem?_eq_getElem (by rw [List.length_map] at hj; exact hj)]
      rfl
    · exact .inr (.inl ⟨t, xs, _, _, rfl, rfl, SqT.of (kp t _ ht htp), atI_nat hv, k j _ H' hv kp P'⟩)
theorem scBarred : FnScope ["_law_text"] [] (defScope sBarred) := ⟨rfl, rfl, rfl, by decide +kernel, rfl, by decide +kernel, by decide +kernel⟩
theorem ok_barred {f : Addr} {fd : FuncData} (F : Fun K "_law_barred" "_law_barred" sBarred f fd) : FnOk P w K mg base CX0 1 f fd [] spBarred := by
  refine F.ok scBarred (fun vs H Q E h => ?_) (fun cdv A outer s H vs Q E hr h => ?_)
  · obtain ⟨rfl, _⟩ := h
    rfl
  · obtain ⟨rfl, k⟩ := h
    refine ⟨_, (pss_cons (ps_set (i := 0) scBarred.nd rfl (Or.inl rfl) pe_str)
      (pss_cons (ps_set (i := 0) scBarred.nd rfl (Or.inl rfl) (pe_op op_add_str (pv 0) pe_str))
      (pss_one (ps_ret (pe_split (pv 0) pe_str))))), ?_⟩
    refine ⟨_, rfl, _, _, rfl, rfl, by decide +kernel, _, rfl, ⟨_, rfl⟩, _, _, rfl, rfl, by decide +kernel, by decide +kernel, fun l hl => ?_⟩
    have e : barred = Txt.split ((Str.ofString "pass raise from none again return returns break call handling else either or loop") ++ Str.ofString " try except as finally with quiet class def error vacant") (Str.ofString " ") := by decide +kernel
    have := k l hl
    rw [e] at this
    exact this
end
end K2
end
section
set_option Elab.async false
set_option maxRecDepth 100000
set_option linter.all false
namespace K2
open PySem L2
theorem strs_ne_pen {ys : List Str} {c : Addr} {a l : Int} : HO.lst (ys.map V.str) ≠ penO c a l := by
  unfold penO
  intro e
  injection e with e
  cases ys with
  | nil => simp at e
  | cons y ys => simp at e
theorem str_eqV (a b : Str) : eqV (.str a) (.str b) = decide (a = b) := by
  show (a == b) = decide (a = b)
  by_cases h : a = b
  · simp [h]
  · simp [h]
theorem inV_strs (x : Str) : ∀ ys : List Str, inV (.str x) (ys.map V.str) = decide (x ∈ ys)
  | [] => rfl
  | y :: ys => by
    show (eqV (.str y) (.str x) || inV (.str x) (ys.map V.str)) = decide (x ∈ y :: ys)
    rw [inV_strs x ys, str_eqV]
    by_cases h : y = x
    · subst h; simp
    · have h2 : ¬ x = y := fun e => h e.symm
      simp [h, h2]
theorem flat_strs : ∀ ys : List Str, (ys.map V.str).all flatV = true
  | [] => rfl
  | y :: ys => by
    show (true && (ys.map V.str).all flatV) = true
    rw [flat_strs ys]
    rfl
theorem codes_append (x y : Str) : codes (x ++ y) = codes x ++ codes y := TL.tl_append x y
theorem codes_one (c : Nat) : codes ⟨#[c]⟩ = [c] := rfl
theorem len_codes (x : Str) : x.length = (codes x).length := by
  show x.cps.size = x.cps.toList.length
  simp
theorem join_ones : ∀ l : List Nat, codes (Txt.join Str.empty (l.map fun c => (⟨#[c]⟩ : Str))) = l := by
  intro l
  rw [TL.join_eq]
  show TL.tl (Str.join Str.empty _) = l
  rw [TL.tl_join]
  show TL.joinL [] _ = l
  induction l with
  | nil => rfl
  | cons c l ih =>
    cases l with
    | nil => rfl
    | cons d l =>
      show [c] ++ ([] ++ TL.joinL [] _) = _
      rw [List.nil_append]
      show [c] ++ TL.joinL [] (List.map TL.tl (List.map (fun c => (⟨#[c]⟩ : Str)) (d :: l))) = c :: d :: l
      rw [ih]
      rfl
theorem cut_to {z : Str} {k : Nat} (h : k ≤ (codes z).length) : codes (cutS z none (some (k : Int))) = (codes z).take k := by
  unfold cutS codes
  rw [HT.sIx_nat, HT.sIx_none]
  have e : z.length = z.cps.toList.length := len_codes z
  have h' : k ≤ z.cps.toList.length := h
  simp only [List.drop_zero, Nat.sub_zero]
  rw [Nat.min_eq_left (by omega)]
theorem cut_from {z : Str} {k : Nat} (h : k ≤ (codes z).length) : codes (cutS z (some (k : Int)) none) = (codes z).drop k := by
  unfold cutS codes
  rw [HT.sIx_nat, HT.sIx_none]
  have e : z.length = z.cps.toList.length := len_codes z
  have h' : k ≤ z.cps.toList.length := h
  rw [Nat.min_eq_left (by omega), e]
  simp only []
  rw [List.take_of_length_le (by rw [List.length_drop]; omega)]
theorem Pen.pne {H : Hp} {p c q : Addr} {ns : List Int} {n : Nat} (h : Pen H p c ns n) (hq : H q = none) : p ≠ q := by
  obtain ⟨a, l, g, _⟩ := h.pen
  exact ne_of_none g hq
theorem Pen.cne {H : Hp} {p c q : Addr} {ns : List Int} {n : Nat} (h : Pen H p c ns n) (hq : H q = none) : c ≠ q := ne_of_none h.cells hq
theorem Keep.fresh {p c q : Addr} {ns : List Int} {n : Nat} {H H1 : Hp} (k : Keep p H H1) (P1 : Pen H1 p c ns n) (h : H1 q = none) : H q = none := by
  cases e : H q with
  | none => rfl
  | some o =>
    rw [k q o e (P1.pne h).symm] at h
    cases h
theorem Pen.strs_ne {H : Hp} {p c q : Addr} {ns : List Int} {n : Nat} {ys : List Str} (h : Pen H p c ns n) (hq : H q = some (.lst (ys.map V.str))) : q ≠ p := fun e => by
  obtain ⟨a, l, g, _⟩ := h.pen
  rw [e, g] at hq
  exact strs_ne_pen (Option.some.inj hq).symm
section
variable {X : Cx}
theorem mulOk_small {x : Str} {k : Int} (h0 : 0 ≤ k) (h1 : k ≤ 8) (hx : x.length ≤ 8) : MulOk x k := by
  refine ⟨?_, fun _ _ => ?_, fun _ _ => ?_⟩
  · simp only [Bool.or_eq_false_iff, decide_eq_false_iff_not]
    omega
  · have : k = 0 ∨ k = 1 ∨ k = 2 ∨ k = 3 ∨ k = 4 ∨ k = 5 ∨ k = 6 ∨ k = 7 ∨ k = 8 := by omega
    rcases this with rfl | rfl | rfl | rfl | rfl | rfl | rfl | rfl | rfl <;> omega
  · unfold Builtin.Str.tooLong
    rw [decide_eq_false_iff_not]
    have h2 : x.length * k.toNat ≤ 8 * 8 := Nat.mul_le_mul hx (by omega)
    have : sizeLine = 16777216 := rfl
    omega
/-! the same rules with the written part named apart (within a comprehension) -/
theorem pe_bmK {K' : PySem.W.Frag} {T : String} {name : Str} {id : String} {r : V → List V → Hp → VK → Prop} {o e : Expr} {es : List Expr} {to : TE} {t : TA} {apos cpos : Pos} (hK : X.K = K') (pa : PlainAttrs T) (slot : PySem.Slot T name id) (hty : typeOf (.builtin id) = pure (.type "method_descriptor")) (hm : MtR X id r) (ho : PE X o to) (ha : PA X (e :: es) t)
    (hbase : attributeBase o name X.env (eval o X.env) = eval o X.env := by rfl)
    (hfew : ((backTo cpos (starEach (e :: es) X.env)).all (fun x => !x.1) && (backToKw cpos (keywordEach [] X.env)).all (fun x => x.1.isSome)
      && decide ((e :: es).length + ([] : List Keyword).length + (if ([] : List Keyword).isEmpty then 0 else 1) < 30)) = true := by rfl)
    (hline : (apos.endLine == cpos.line) = true := by rfl) (hs : starEach (e :: es) X.env = (false, eval e X.env) :: starEach es X.env := by rfl) (hplain : (backTo cpos (starEach es X.env)).any (·.1) = false := by rfl) :
    PE X (.Call (.Attribute o name apos) (e :: es) [] cpos) (tBM K' T r to t) := by
  subst hK
  exact pe_bm pa slot hty hm ho ha hbase hfew hline hs hplain
theorem call_len_seqK {K' : PySem.W.Frag} (hK : X.K = K') : CallR X (.builtin "len") (fun xs H Q => ∃ p ys, xs = [V.ref p] ∧ (SqL K' H p ys ∨ SqT K' H p ys) ∧ Q (.int ys.length) H) := by
  subst hK
  exact call_len_seq
theorem ix_listK {K' : PySem.W.Frag} (hK : X.K = K') : IxR X (rIxL K') := by
  subst hK
  exact ix_list
theorem op_in_seqK {K' : PySem.W.Frag} (hK : X.K = K') : OpR X (compareOp .In) (rIn K' false) := by
  subst hK
  exact op_in_seq
theorem op_notIn_seqK {K' : PySem.W.Frag} (hK : X.K = K') : OpR X (compareOp .NotIn) (rIn K' true) := by
  subst hK
  exact op_notIn_seq
theorem op_mul_str : OpR X (binaryOp .Mult) (fun x y H Q => ∃ a k, x = .str a ∧ y = .int k ∧ 0 ≤ k ∧ k ≤ 8 ∧ a.length ≤ 8 ∧ Q (.str (Txt.mul a k)) H) := by
  intro pins s σ H x y v u Q I rx ry h
  obtain ⟨a, k, rfl, rfl, h0, h1, hx, q⟩ := h
  obtain ⟨t, rfl⟩ := rx
  obtain ⟨t', rfl⟩ := ry
  exact SB.mul (mulOk_small h0 h1 hx) (fun t' tk => ⟨.str (Txt.mul a k), H, I.tok _, ⟨_, rfl⟩, q⟩)
end
end K2
end
section
set_option Elab.async false
set_option maxRecDepth 100000
set_option linter.all false
namespace K2
open PySem L2
theorem low_letters : ∀ c ∈ codes (Str.ofString "abcdefghijklmnopqrstuvwxyz"), 97 ≤ c ∧ c ≤ 122 := by decide +kernel
theorem at_letters : ∀ j, j < 26 → (codes (Str.ofString "abcdefghijklmnopqrstuvwxyz"))[j]? = some (97 + j) := by decide +kernel
theorem sum_ones : ∀ l : List Nat, (((l.map fun c => (⟨#[c]⟩ : Str)).map (·.length)).sum) = l.length
  | [] => rfl
  | c :: l => by
    rw [List.map_cons, List.map_cons, List.sum_cons, sum_ones l, List.length_cons]
    show 1 + l.length = l.length + 1
    omega
theorem if01 (c : Bool) : 0 ≤ (if c = true then (1 : Int) else 0) ∧ (if c = true then (1 : Int) else 0) ≤ 8 := by cases c <;> decide
theorem fin_q {W : Str} {b : List Nat} {spot f h i : Nat} (e : codes W = wordAt b spot (signAt f h i)) (hi : 26 ≤ i) : W ++ Str.ofString "q" = txt (finalAt b spot f h i) := by
  refine codes_inj ?_
  rw [codes_append, codes_txt, e]
  unfold finalAt
  dsimp only
  rw [if_pos hi]
  rfl
theorem fin_z {W : Str} {b : List Nat} {spot f h i : Nat} (e : codes W = wordAt b spot (signAt f h i)) (hi : ¬ 26 ≤ i) : W ++ Txt.mul (Str.ofString "z") (if W ∈ barred then 1 else 0) = txt (finalAt b spot f h i) := by
  refine codes_inj ?_
  have eW : txt (wordAt b spot (signAt f h i)) = W := by rw [← e, txt_codes]
  rw [codes_append, codes_txt, e]
  unfold finalAt
  dsimp only
  rw [if_neg hi, eW]
  congr 1
  by_cases hb : W ∈ barred
  · rw [if_pos hb, if_pos hb]
    decide +kernel
  · rw [if_neg hb, if_neg hb]
    decide +kernel
theorem finals_succ (b : List Nat) (spot f h i : Nat) : finals b spot f h (i + 1) = finals b spot f h i ++ [txt (finalAt b spot f h i)] := by
  unfold finals
  rw [List.range_succ, List.map_append]
  rfl
/-- a fresh list of m words -/
def spWords : Sp := fun vs H Q _ => ∃ (p c : Addr) (ns : List Int) (n m : Nat), vs = [.ref p, .int m] ∧ Pen H p c ns n ∧ n + 12 ≤ 100000 ∧ m ≤ 31 ∧
  ∀ (l : Addr) (ws : List Str) (H' : Hp), Words ws → ws.length = m → H' l = some (.lst (ws.map V.str)) → Keep p H H' → Pen H' p c ns (n + 12) → Q (.ref l) H'
abbrev nWords : List Str := ["_law_pen_here", "_law_many", "_law_letters", "_law_k", "_law_base", "_law_spot", "_law_first", "_law_hop", "_law_found", "_law_sign", "_law_word", "_law_more"]
section
variable {P : Program} {w : World} {K : PySem.W.Frag} {mg : Str → Option Value} {base : Heap}
theorem scWords : FnScope nWords ["_law_pen_here", "_law_many"] (defScope sWords) := ⟨rfl, rfl, rfl, by decide +kernel, rfl, by decide +kernel, by decide +kernel⟩
theorem ok_words {f fD fP fB : Addr} {fd fdD fdP fdB : FuncData} (F : Fun K "_law_words" "_law_words" sWords f fd) (T : Bi mg) (D : Df K mg "_law_draw" sDraw fD fdD ["_law_pen_here", "_law_many"]) (PK : Df K mg "_law_pick" sPick fP fdP ["_law_pen_here", "_law_some"])
    (BA : Df K mg "_law_barred" sBarred fB fdB []) : FnOk P w K mg base CX0 3 f fd ["_law_pen_here", "_law_many"] spWords := by
  have GD : FnOk P w K mg base CX0 1 fD fdD ["_law_pen_here", "_law_many"] spDraw := ok_draw D.F T
  have GP : FnOk P w K mg base CX0 2 fP fdP ["_law_pen_here", "_law_some"] spPick := ok_pick PK.F T D
  have GB : FnOk P w K mg base CX0 1 fB fdB [] spBarred := ok_barred BA.F
  refine F.ok scWords (fun vs H Q E h => ?_) (fun cdv A outer s H vs Q E hr h => ?_)
  · obtain ⟨p, c, ns, n, m, rfl, _⟩ := h
    rfl
  · obtain ⟨p, c, ns, n, m, rfl, hP, hn, hm, k⟩ := h
    have hr1 : Room 2 _ := hr
    have hr0 : Room 1 _ := hr.mono (by decide)
    refine ⟨_, (pss_cons (ps_set (i := 2) scWords.nd rfl (Or.inr rfl) pe_str)
      (pss_cons (ps_set (i := 4) scWords.nd rfl (Or.inl rfl) (pe_join pe_str (pe_lc (own := [("_law_k", 3)]) (g := gName 3) (tt := tYes) rfl scWords.nd (pi_range1 rfl T.range (pa_cons (pe_call GD hr0 (by rfl) D.m D.F.kp D.b .nil pass0 (pa_cons (pv 0) (pa_cons pe_int pa_nil))) pa_nil)) (blkOk_by (N := nWords) (sc := defScope sWords) (by decide +kernel)) (fun _ _ _ _ _ => pg_name (i := 3) scWords.nd rfl (Or.inl rfl)) (fun _ _ _ _ _ => pts_nil) (fun _ _ _ _ _ => pe_call GP hr1 (by rfl) PK.m PK.F.kp PK.b .nil pass0 (pa_cons (pv 0) (pa_cons (pv 2) pa_nil))))))
      (pss_cons (ps_set (i := 4) scWords.nd rfl (Or.inl rfl) (pe_call GP hr1 (by rfl) PK.m PK.F.kp PK.b .nil pass0 (pa_cons (pv 0) (pa_cons (pe_lst (pa_cons (pv 4) (pa_cons (pv 4) (pa_cons (pv 4) (pa_cons pe_str (pa_cons pe_str (pa_cons pe_str pa_nil))))))) pa_nil))))
      (pss_cons (ps_set (i := 5) scWords.nd rfl (Or.inl rfl) (pe_call GD hr0 (by rfl) D.m D.F.kp D.b .nil pass0 (pa_cons (pv 0) (pa_cons (pe_op op_add (pe_callB call_len_str (by rfl) T.len PySem.boot_len (pa_cons (pv 4) pa_nil)) pe_int) pa_nil))))
      (pss_cons (ps_set (i := 6) scWords.nd rfl (Or.inl rfl) (pe_call GD hr0 (by rfl) D.m D.F.kp D.b .nil pass0 (pa_cons (pv 0) (pa_cons pe_int pa_nil))))
      (pss_cons (ps_set (i := 7) scWords.nd rfl (Or.inl rfl) (pe_call GP hr1 (by rfl) PK.m PK.F.kp PK.b .nil pass0 (pa_cons (pv 0) (pa_cons (pe_lst (pa_cons pe_int (pa_cons pe_int (pa_cons pe_int (pa_cons pe_int (pa_cons pe_int (pa_cons pe_int pa_nil))))))) pa_nil))))
      (pss_cons (ps_set (i := 8) scWords.nd rfl (Or.inl rfl) (pe_lst pa_nil))
      (pss_cons (ps_for PassesOwn.never rfl (pi_range1 rfl T.range (pa_cons (pv 1) pa_nil)) (pg_name (i := 3) scWords.nd rfl (Or.inl rfl))
      (pss_cons (ps_set (i := 9) scWords.nd rfl (Or.inl rfl) (pe_ix ix_str (pv 2) (pe_op op_modN (pe_callTy call_int1 (by rfl) T.int (by decide +kernel) (pa_cons (pe_op op_add (pv 6) (pe_op op_mul (pv 7) (pv 3))) pa_nil)) pe_int) (fun _ _ => rfl)))
        (pss_cons (ps_set (i := 10) scWords.nd rfl (Or.inl rfl) (pe_op op_add_str (pe_op op_add_str (pe_slice sl_str (pv 4) po_none (po_some (pv 5))) (pv 9)) (pe_slice sl_str (pv 4) (po_some (pv 5)) po_none)))
        (pss_cons (ps_set (i := 11) scWords.nd rfl (Or.inl rfl) (pe_op op_mul_str pe_str (pe_callTy call_int1 (by rfl) T.int (by decide +kernel) (pa_cons (pe_cmpR op_in_seq (pv 10) (pe_call0 GB hr0 (by rfl) BA.m BA.F.kp BA.b .nil pass0) rfl) pa_nil))))
        (pss_one (ps_expr (pe_bm PySem.F.plainAttrs_list PySem.F.slot_list_append PySem.F.type_list_append mt_append (pv 8) (pa_cons (pe_op op_add_str (pv 10) (pe_ifExp (pt_cmpR op_ge (pv 3) pe_int (nomark _)) pe_str (pv 11))) pa_nil))))))))
      (pss_one (ps_ret (pv 8))))))))))), ?_⟩
    -- letters; the first base
    refine ⟨⟨_, rfl⟩, _, rfl, p, c, ns, n, 7, rfl, hP, by omega, by decide, by decide, fun v1 H1 v10 v11 k1 P1 => ?_⟩
    obtain ⟨q1, rfl⟩ : ∃ j : Nat, v1 = (j : Int) := ⟨v1.toNat, (Int.toNat_of_nonneg v10).symm⟩
    refine ⟨_, rfl, by omega, by omega, fun D1 hD1 => ?_⟩
    have hD1H : H D1 = none := k1.fresh P1 hD1
    have hpD := P1.pne hD1
    have hcD := P1.cne hD1
    refine lc_range (lo := 0) (n := q1) (fun i Hc => ∃ ys : List Nat, Low ys ∧ ys.length = i ∧ Hc D1 = some (.lst ((ys.map fun c => (⟨#[c]⟩ : Str)).map V.str)) ∧ Keep p H Hc ∧ Pen Hc p c ns (n + 1 + i)) ?_ ?_ ?_
    · refine ⟨[], fun _ h => (by cases h), rfl, upd_same, k1.new hD1H, P1.new hD1⟩
    · rintro i Hc hi ⟨ys, hys, hyl, hD, kc, Pc⟩
      have hDp : D1 ≠ p := hpD.symm
      refine ⟨rfl, _, rfl, _, rfl, p, c, ns, n + 1 + i, _, _, rfl, Pc, by omega, .inr (.inl ⟨_, rfl, rfl, by decide +kernel⟩), by decide +kernel, by decide +kernel, fun j v Hd hv kd Pd => ?_⟩
      rw [List.getElem?_map] at hv
      cases hc : (codes (Str.ofString "abcdefghijklmnopqrstuvwxyz"))[j]? with
      | none => rw [hc] at hv; cases hv
      | some ch =>
        rw [hc] at hv
        cases hv
        have hch := low_letters ch (List.mem_of_getElem? hc)
        refine ⟨_, kd D1 _ hD hDp, ?_, ys ++ [ch], ?_, ?_, ?_, ?_, ?_⟩
        · rw [List.length_map, List.length_map, hyl]
          have : sizeLine = 16777216 := rfl
          omega
        · intro d hd
          rcases List.mem_append.mp hd with hd | hd
          · exact hys d hd
          · have : d = ch := by simpa using hd
            omega
        · rw [List.length_append, hyl]
          rfl
        · rw [upd_same, List.map_append, List.map_append]
          rfl
        · exact (kc.trans kd).new hD1H
        · exact Pd.upd' hpD hcD
    · -- the join, the first pick
      rintro Hj ⟨ys, hys, hyl, hD, kj, Pj⟩
      refine ⟨Str.empty, D1, ys.map fun c => (⟨#[c]⟩ : Str), rfl, rfl, .inl (SqL.of hD), ?_, ?_⟩
      · rw [sum_ones, List.length_map]
        show ys.length + ys.length * 0 ≤ 16777216
        omega
      have hb0 := join_ones ys
      generalize Txt.join Str.empty (ys.map fun c => (⟨#[c]⟩ : Str)) = b0 at hb0
      refine ⟨_, rfl, _, rfl, _, rfl, _, rfl, (by show 6 ≤ sizeLine; decide), fun l6 h6 => ?_⟩
      refine ⟨p, c, ns, n + 1 + q1, _, _, rfl, Pj.new h6, by omega, .inl ⟨l6, rfl, (Pj.pne h6).symm, upd_same⟩, by simp, (by show 6 ≤ 1000; decide), fun j6 v6 H2 hv6 k2 P2 => ?_⟩
      obtain ⟨b, rfl, hbl, hb6⟩ : ∃ b : Str, v6 = .str b ∧ Low (codes b) ∧ (codes b).length ≤ 6 := by
        have hm6 := List.mem_of_getElem? hv6
        have l0 : Low (codes b0) ∧ (codes b0).length ≤ 6 := by rw [hb0]; exact ⟨hys, by omega⟩
        simp only [List.mem_cons, List.not_mem_nil, or_false] at hm6
        rcases hm6 with rfl | rfl | rfl | rfl | rfl | rfl
        · exact ⟨_, rfl, l0⟩
        · exact ⟨_, rfl, l0⟩
        · exact ⟨_, rfl, l0⟩
        · exact ⟨_, rfl, by unfold Low; decide +kernel, by decide +kernel⟩
        · exact ⟨_, rfl, by unfold Low; decide +kernel, by decide +kernel⟩
        · exact ⟨_, rfl, by unfold Low; decide +kernel, by decide +kernel⟩
      have k2' : Keep p H H2 := (kj.new (kj.fresh Pj h6)).trans k2
      -- spot
      refine ⟨_, rfl, _, rfl, _, rfl, (by rw [len_codes]; show _ ≤ 16777216; omega), _, _, rfl, rfl, p, c, ns, n + 1 + q1 + 1, _, rfl, P2, by omega, by omega, by rw [len_codes]; omega, fun vs H3 s0 s1 k3 P3 => ?_⟩
      obtain ⟨spot, rfl⟩ : ∃ j : Nat, vs = (j : Int) := ⟨vs.toNat, (Int.toNat_of_nonneg s0).symm⟩
      have hspot : spot ≤ (codes b).length := by rw [len_codes] at s1; omega
      have k3' := k2'.trans k3
      -- first
      refine ⟨_, rfl, p, c, ns, n + 1 + q1 + 1 + 1, _, rfl, P3, by omega, by decide, by decide, fun vf H4 f0 f1 k4 P4 => ?_⟩
      obtain ⟨fst, rfl⟩ : ∃ j : Nat, vf = (j : Int) := ⟨vf.toNat, (Int.toNat_of_nonneg f0).symm⟩
      have k4' := k3'.trans k4
      -- hop
      refine ⟨_, rfl, (by show 6 ≤ sizeLine; decide), fun lh hlh => ?_⟩
      refine ⟨p, c, ns, n + 1 + q1 + 1 + 1 + 1, _, _, rfl, P4.new hlh, by omega, .inl ⟨lh, rfl, (P4.pne hlh).symm, upd_same⟩, by simp, (by show 6 ≤ 1000; decide), fun jh vh H5 hvh k5 P5 => ?_⟩
      obtain ⟨hop, rfl, hhop⟩ : ∃ h : Nat, vh = .int (h : Int) ∧ h ∈ [1, 3, 5, 7, 9, 11] := by
        have hm6 := List.mem_of_getElem? hvh
        simp only [List.mem_cons, List.not_mem_nil, or_false] at hm6
        rcases hm6 with rfl | rfl | rfl | rfl | rfl | rfl
        · exact ⟨1, rfl, by simp⟩
        · exact ⟨3, rfl, by simp⟩
        · exact ⟨5, rfl, by simp⟩
        · exact ⟨7, rfl, by simp⟩
        · exact ⟨9, rfl, by simp⟩
        · exact ⟨11, rfl, by simp⟩
      have k5' : Keep p H H5 := (k4'.new (k4'.fresh P4 hlh)).trans k5
      -- found = []
      refine ⟨Nat.zero_le _, fun l hl => ?_⟩
      have hlH : H l = none := k5'.fresh P5 hl
      have hpl := P5.pne hl
      have hcl := P5.cne hl
      have hb11 : hop ≤ 11 := by
        simp only [List.mem_cons, List.not_mem_nil, or_false] at hhop
        omega
      refine ⟨_, rfl, _, rfl, by omega, by omega, for_range (lo := 0) (n := m) (fun i σ Hc => ∃ v3 v9 v10 v11 : Option V, σ = [some (.ref p), some (.int m), some (.str (Str.ofString "abcdefghijklmnopqrstuvwxyz")), v3, some (.str b), some (.int spot), some (.int fst), some (.int hop), some (.ref l), v9, v10, v11] ∧
        Hc l = some (.lst ((finals (codes b) spot fst hop i).map V.str)) ∧ Keep p H Hc ∧ Pen Hc p c ns (n + 12)) ?_ ?_ ?_⟩
      · refine ⟨_, _, _, _, rfl, upd_same, k5'.new hlH, (P5.new hl).mono (by omega)⟩
      · rintro i σ Hc hi ⟨v3, v9, v10, v11, rfl, hL, kc, Pc⟩
        have eN : ((fst : Int) + (hop : Int) * (0 + (i : Int))).fmod 26 = (((fst + hop * i) % 26 : Nat) : Int) := by
          rw [Int.zero_add, Int.fmod_eq_emod_of_nonneg _ (by decide)]
          have : ((fst : Int) + (hop : Int) * (i : Int)) = ((fst + hop * i : Nat) : Int) := by
            rw [Int.natCast_add, Int.natCast_mul]
          rw [this]
          rfl
        have hlt : (fst + hop * i) % 26 < 26 := Nat.mod_lt _ (by decide)
        refine ⟨_, rfl, _, rfl, _, rfl, _, rfl, _, _, rfl, rfl, .inl ⟨by omega, by omega⟩, _, _, rfl, rfl, .inl ⟨_, rfl, _, _, rfl, rfl, (by show (26 : Int) ≠ 0; decide), _, _, _, rfl, rfl, by decide +kernel, (by rw [eN]; exact atI_nat (at_letters _ hlt)), ?_⟩⟩
        have lc1 := len_codes b
        refine ⟨_, rfl, _, rfl, _, rfl, _, rfl, ?_, _, rfl, _, _, rfl, rfl, ?_, _, rfl, _, rfl, _, rfl, _, rfl, ?_, _, _, rfl, rfl, ?_, ?_⟩
        · rw [lc1]; show _ ≤ 16777216; omega
        · rw [len_codes (cutS b none (some (spot : Int))), cut_to hspot, List.length_take]; show _ + 1 ≤ 16777216; omega
        · rw [lc1]; show _ ≤ 16777216; omega
        · rw [len_codes (cutS b none (some (spot : Int)) ++ _), codes_append, cut_to hspot, len_codes (cutS b _ none), cut_from hspot, List.length_append, List.length_take, List.length_drop]
          show _ + 1 + _ ≤ 16777216
          omega
        have hW : codes (cutS b none (some (spot : Int)) ++ (⟨#[97 + (fst + hop * i) % 26]⟩ : Str) ++ cutS b (some (spot : Int)) none) = wordAt (codes b) spot (signAt fst hop i) := by
          rw [codes_append, codes_append, cut_to hspot, cut_from hspot]
          rfl
        generalize cutS b none (some (spot : Int)) ++ (⟨#[97 + (fst + hop * i) % 26]⟩ : Str) ++ cutS b (some (spot : Int)) none = W at hW ⊢
        refine ⟨_, rfl, rfl, fun lb hlb => ⟨lb, _, rfl, .inl (SqL.of upd_same), rfl, flat_strs _, .inr ⟨_, rfl, _, _, rfl, rfl, ?_, ?_, by decide +kernel, ?_⟩⟩⟩
        · exact (if01 _).1
        · exact (if01 _).2
        have hz : (if (if false = true then !inV (V.str W) (barred.map V.str) else inV (V.str W) (barred.map V.str)) = true then (1 : Int) else 0) = (if W ∈ barred then 1 else 0) := by
          rw [if_neg Bool.false_ne_true, inV_strs]
          by_cases hb : W ∈ barred
          · rw [if_pos hb, if_pos (by simpa using hb)]
          · rw [if_neg hb, if_neg (by simpa using hb)]
        have hlbH : H lb = none := kc.fresh Pc hlb
        have hll : l ≠ lb := ne_of_none hL hlb
        have hL2 : (upd Hc lb (.lst (barred.map V.str))) l = some (.lst ((finals (codes b) spot fst hop i).map V.str)) := by rw [upd_ne hll]; exact hL
        have kc2 : Keep p H (upd Hc lb (.lst (barred.map V.str))) := kc.new hlbH
        have Pc2 := Pc.new (o := .lst (barred.map V.str)) hlb
        have fin : ∀ x : Str, x = txt (finalAt (codes b) spot fst hop i) → (upd (upd Hc lb (.lst (barred.map V.str))) l (.lst ((finals (codes b) spot fst hop i).map V.str ++ [V.str x]))) l = some (.lst ((finals (codes b) spot fst hop (i + 1)).map V.str)) := fun x hx => by
          rw [upd_same, finals_succ, List.map_append, hx]
          rfl
        have fsz : (finals (codes b) spot fst hop i).length = i := by simp [finals]
        have lW : W.length = (codes b).length + 1 := by rw [len_codes, hW, len_wordAt]
        refine ⟨_, rfl, .inl ⟨rfl, _, SqL.of hL2⟩, _, rfl, _, rfl, _, _, rfl, rfl, _, rfl, ite2 (fun hg => ?_) (fun hg => ?_)⟩
        · have hg := of_decide_eq_true hg
          have hi26 : 26 ≤ i := by omega
          refine ⟨_, _, rfl, rfl, ?_, l, _, _, rfl, rfl, hL2, ?_, ?_⟩
          · rw [lW]; show _ + 1 ≤ 16777216; omega
          · rw [List.length_map, fsz]; show _ < 16777216; omega
          · exact ⟨_, _, _, _, rfl, fin _ (fin_q hW hi26), kc2.new hlH, Pc2.upd' hpl hcl⟩
        · have hi26 : ¬ 26 ≤ i := fun h => hg (decide_eq_true (by omega))
          refine ⟨_, rfl, _, _, rfl, rfl, ?_, l, _, _, rfl, rfl, hL2, ?_, ?_⟩
          · rw [hz, lW]
            have : (Txt.mul (Str.ofString "z") (if W ∈ barred then 1 else 0)).length ≤ 1 := by
              by_cases hb : W ∈ barred
              · rw [if_pos hb]; decide +kernel
              · rw [if_neg hb]; decide +kernel
            show _ ≤ 16777216
            omega
          · rw [List.length_map, fsz]; show _ < 16777216; omega
          · refine ⟨_, _, _, _, rfl, fin _ ?_, kc2.new hlH, Pc2.upd' hpl hcl⟩
            rw [hz]
            exact fin_z hW hi26
      · rintro σ Hc ⟨v3, v9, v10, v11, rfl, hL, kc, Pc⟩
        refine ⟨_, rfl, ?_⟩
        exact k l _ Hc (words_finals hbl hb6 hhop (by omega) spot fst) (by simp [finals]) hL kc Pc
end
end K2
end
section
set_option Elab.async false
set_option maxRecDepth 100000
set_option linter.all false
namespace K2
open PySem L2
abbrev sBegun : Stmt := top 21
theorem mul8 (ch : Nat) : Txt.mul (⟨#[ch]⟩ : Str) 8 = txt (List.replicate 8 ch) := by rfl
theorem cut_rep {ch k : Nat} (h : k < 8) : cutS (txt (List.replicate 8 ch)) none (some ((0 + (k : Int)) + 1)) = txt (List.replicate (k + 1) ch) := by
  refine codes_inj ?_
  have e : (0 + (k : Int)) + 1 = ((k + 1 : Nat) : Int) := by omega
  rw [e, cut_to (by rw [codes_txt, List.length_replicate]; omega), codes_txt, codes_txt, List.take_replicate]
  congr 1
  omega
theorem cut_first {x : Str} (h : VW x) : ∃ ch, 97 ≤ ch ∧ ch ≤ 122 ∧ cutS x none (some 1) = ⟨#[ch]⟩ := by
  have hne := h.ne
  cases hc : codes x with
  | nil => exact absurd hc hne
  | cons ch r =>
    have hl := h.low ch (by rw [hc]; simp)
    refine ⟨ch, hl.1, hl.2, codes_inj ?_⟩
    rw [show (1 : Int) = ((1 : Nat) : Int) from rfl, cut_to (by rw [hc]; simp), hc]
    rfl
theorem reps_succ (ch i : Nat) : reps ch (i + 1) = reps ch i ++ [txt (List.replicate (i + 1) ch)] := by
  unfold reps
  rw [List.range_succ, List.map_append]
  rfl
def spBegun : Sp := fun vs H Q _ => ∃ (p c : Addr) (ns : List Int) (n m : Nat), vs = [.ref p, .int m] ∧ Pen H p c ns n ∧ n + 14 ≤ 100000 ∧ m ≤ 31 ∧
  ∀ (l : Addr) (ws : List Str) (H' : Hp), Words ws → ws.length = m → H' l = some (.lst (ws.map V.str)) → Keep p H H' → Pen H' p c ns (n + 14) → Q (.ref l) H'
abbrev nBegun : List Str := ["_law_pen_here", "_law_many", "_law_found", "_law_whole", "_law_some", "_law_k"]
section
variable {P : Program} {w : World} {K : PySem.W.Frag} {mg : Str → Option Value} {base : Heap}
theorem scBegun : FnScope nBegun ["_law_pen_here", "_law_many"] (defScope sBegun) := ⟨rfl, rfl, rfl, by decide +kernel, rfl, by decide +kernel, by decide +kernel⟩
theorem ok_begun {f fD fW : Addr} {fd fdD fdW : FuncData} (F : Fun K "_law_begun" "_law_begun" sBegun f fd) (T : Bi mg) (D : Df K mg "_law_draw" sDraw fD fdD ["_law_pen_here", "_law_many"]) (WO : Df K mg "_law_words" sWords fW fdW ["_law_pen_here", "_law_many"])
    (GW : FnOk P w K mg base CX0 3 fW fdW ["_law_pen_here", "_law_many"] spWords) : FnOk P w K mg base CX0 4 f fd ["_law_pen_here", "_law_many"] spBegun := by
  have GD : FnOk P w K mg base CX0 1 fD fdD ["_law_pen_here", "_law_many"] spDraw := ok_draw D.F T
  refine F.ok scBegun (fun vs H Q E h => ?_) (fun cdv A outer s H vs Q E hr h => ?_)
  · obtain ⟨p, c, ns, n, m, rfl, _⟩ := h
    rfl
  · obtain ⟨p, c, ns, n, m, rfl, hP, hn, hm, k⟩ := h
    have hr2 : Room 3 _ := hr
    have hr0 : Room 1 _ := hr.mono (by decide)
    refine ⟨_, (pss_cons (ps_set (i := 2) scBegun.nd rfl (Or.inl rfl) (pe_call GW hr2 (by rfl) WO.m WO.F.kp WO.b .nil pass0 (pa_cons (pv 0) (pa_cons (pv 1) pa_nil))))
      (pss_cons (ps_if (PW.pt (pw_or (pt_cmpR op_eq (pv 1) pe_int (nomark _)) (pw_or (pt_cmpR op_gt (pv 1) pe_int (nomark _)) (pw_or1 (pt_cmpR op_gt (pe_call GD hr0 (by rfl) D.m D.F.kp D.b .nil pass0 (pa_cons (pv 0) (pa_cons pe_int pa_nil))) pe_int (nomark _))))))
      (pss_one (ps_ret (pv 2)))
      pss_nil)
      (pss_cons (ps_set (i := 3) scBegun.nd rfl (Or.inr rfl) (pe_op op_mul_str (pe_slice sl_str (pe_ix ix_list (pv 2) pe_int (fun _ _ => rfl)) po_none (po_some pe_int)) pe_int))
      (pss_cons (ps_setLc (i := 4) (own := [("_law_k", 5)]) (g := gName 5) (tt := tYes) rfl scBegun.nd rfl rfl (sw_true rfl rfl rfl (by decide +kernel)) (pi_range1 rfl T.range (pa_cons (pv 1) pa_nil)) (blkOk_by (N := nBegun) (sc := defScope sBegun) (by decide +kernel)) (fun _ _ _ _ _ => pg_name (i := 5) scBegun.nd rfl (Or.inl rfl)) (fun _ _ _ _ _ => pts_nil) (fun _ _ _ _ _ => pe_slice sl_str (pv 3) po_none (po_some (pe_op op_add (pv 5) pe_int))))
      (pss_one (ps_ret (pe_ifExp (pt_cmpR op_eq (pe_call GD hr0 (by rfl) D.m D.F.kp D.b .nil pass0 (pa_cons (pv 0) (pa_cons pe_int pa_nil))) pe_int (nomark _)) (pv 4) (pe_revL (pv 4))))))))), ?_⟩
    refine ⟨_, rfl, _, rfl, p, c, ns, n, m, rfl, hP, by omega, hm, fun l ws H1 hw hwl hl k1 P1 => ?_⟩
    have give : ∀ H2 : Hp, Keep p H1 H2 → Pen H2 p c ns (n + 12 + 1) → Q (.ref l) H2 := fun H2 k2 P2 =>
      k l ws H2 hw hwl (k2 l _ hl (P1.strs_ne hl)) (k1.trans k2) (P2.mono (by omega))
    refine ⟨_, rfl, rfl, _, rfl, ite2 (fun h0 => ?_) (fun h0 => ?_)⟩
    · exact ⟨_, rfl, give H1 (Keep.refl _ _) (P1.mono (by omega))⟩
    refine ⟨_, rfl, _, _, rfl, rfl, _, rfl, ite2 (fun h1 => ?_) (fun h1 => ?_)⟩
    · exact ⟨_, rfl, give H1 (Keep.refl _ _) (P1.mono (by omega))⟩
    refine ⟨_, rfl, p, c, ns, n + 12, _, rfl, P1, by omega, by decide, by decide, fun v H2 v0 v1 k2 P2 => ?_⟩
    refine ⟨_, _, rfl, rfl, _, rfl, ite2 (fun h2 => ?_) (fun h2 => ?_)⟩
    · exact ⟨_, rfl, give H2 k2 P2⟩
    have m0 : 0 < m := by
      have : ¬ (V.int (m : Int) = V.int 0) := fun e => h0 (decide_eq_true e)
      rcases Nat.eq_zero_or_pos m with e | e
      · exact absurd (by rw [e]; rfl) this
      · exact e
    have m8 : m ≤ 8 := by
      have : ¬ (8 < (m : Int)) := fun e => h1 (decide_eq_true e)
      omega
    have hl2 := k2 l _ hl (P1.strs_ne hl)
    have k2' := k1.trans k2
    have h00 : ws[0]? = some ws[0] := List.getElem?_eq_getElem (by omega)
    obtain ⟨ch, c1, c2, hcut⟩ := cut_first (hw.vw ws[0] (List.getElem_mem _))
    have hvw := hw.vw ws[0] (List.getElem_mem _)
    refine ⟨_, rfl, l, _, _, _, rfl, rfl, SqL.of hl2, atI_nat (j := 0) (by rw [List.getElem?_map, h00]; rfl), _, rfl, _, rfl, ?_, _, _, rfl, rfl, by decide, by decide, ?_, ?_⟩
    · rw [len_codes]; have := hvw.le; show _ ≤ 16777216; omega
    · rw [hcut]; show 1 ≤ 8; decide
    rw [hcut, mul8]
    refine ⟨_, rfl, _, rfl, by omega, by omega, fun D1 hD1 => ?_⟩
    have hD1H : H D1 = none := k2'.fresh P2 hD1
    have hpD := P2.pne hD1
    have hcD := P2.cne hD1
    refine lc_range (lo := 0) (n := m) (fun i Hc => Hc D1 = some (.lst ((reps ch i).map V.str)) ∧ Keep p H Hc ∧ Pen Hc p c ns (n + 13)) ?_ ?_ ?_
    · exact ⟨upd_same, k2'.new hD1H, (P2.new hD1).mono (by omega)⟩
    · rintro i Hc hi ⟨hD, kc, Pc⟩
      refine ⟨rfl, _, rfl, _, rfl, _, _, rfl, rfl, _, rfl, _, rfl, ?_, _, hD, ?_, ?_, ?_, ?_⟩
      · rw [len_codes, codes_txt, List.length_replicate]; decide
      · rw [List.length_map]; simp [reps]; show _ < 16777216; omega
      · rw [upd_same, cut_rep (by omega), reps_succ, List.map_append]
        rfl
      · exact kc.new hD1H
      · exact Pc.upd' hpD hcD
    · rintro Hj ⟨hD, kj, Pj⟩
      refine ⟨_, rfl, p, c, ns, n + 13, _, rfl, Pj, by omega, by decide, by decide, fun v3 H3 v30 v31 k3 P3 => ?_⟩
      have hD3 := k3 D1 _ hD hpD.symm
      have rl : (reps ch m).length = m := by simp [reps]
      refine ⟨rfl, _, rfl, ite2 (fun hq => ?_) (fun hq => ?_)⟩
      · exact ⟨_, rfl, k D1 _ H3 (words_reps c1 c2 m8) rl hD3 (kj.trans k3) (P3.mono (by omega))⟩
      · refine ⟨_, rfl, D1, _, rfl, SqL.of hD3, fun r hr' => ?_⟩
        refine k r _ _ (words_reps c1 c2 m8).rev (by rw [List.length_reverse]; exact rl) (by rw [upd_same, List.map_reverse]) ((kj.trans k3).new ((kj.trans k3).fresh P3 hr')) ((P3.new hr').mono (by omega))
end
end K2
end
section
set_option Elab.async false
set_option maxRecDepth 100000
set_option linter.all false
namespace K2
open PySem L2
abbrev sMixed : Stmt := top 22
abbrev sRow : Stmt := top 23
abbrev sRows : Stmt := top 24

theorem perm_erase {α : Type} : ∀ (l : List α) (k : Nat) (h : k < l.length), ([l[k]] ++ l.eraseIdx k).Perm l
  | [], k, h => absurd h (Nat.not_lt_zero _)
  | a :: l, 0, h => List.Perm.refl _
  | a :: l, k + 1, h => by
    have ih := perm_erase l k (Nat.lt_of_succ_lt_succ h)
    show (l[k]'(Nat.lt_of_succ_lt_succ h) :: (a :: l.eraseIdx k)).Perm (a :: l)
    exact (List.Perm.swap a _ _).trans (List.Perm.cons a ih)
theorem map_erase {α β : Type} (f : α → β) : ∀ (l : List α) (k : Nat), (l.map f).eraseIdx k = (l.eraseIdx k).map f
  | [], k => by simp
  | a :: l, 0 => rfl
  | a :: l, k + 1 => by
    show f a :: (l.map f).eraseIdx k = f a :: (l.eraseIdx k).map f
    rw [map_erase f l k]
def spMixed : Sp := fun vs H Q _ => ∃ (p c y : Addr) (ns : List Int) (n : Nat) (xs : List Str), vs = [.ref p, .ref y] ∧ Pen H p c ns n ∧ n + 40 ≤ 100000 ∧ H y = some (.lst (xs.map V.str)) ∧ xs.length ≤ 33 ∧
  ∀ (l : Addr) (ys : List Str) (H' : Hp), ys.Perm xs → H' l = some (.lst (ys.map V.str)) → Keep p H H' → Pen H' p c ns (n + xs.length) → Q (.ref l) H'
abbrev nMixed : List Str := ["_law_pen_here", "_law_some", "_law_left", "_law_k"]
section
variable {P : Program} {w : World} {K : PySem.W.Frag} {mg : Str → Option Value} {base : Heap}
theorem scMixed : FnScope nMixed ["_law_pen_here", "_law_some"] (defScope sMixed) := ⟨rfl, rfl, rfl, by decide +kernel, rfl, by decide +kernel, by decide +kernel⟩
theorem mt_popAtR (X : Cx) : MtR X "list.pop" rPopAt := mt_popAt
theorem six {k n : Nat} (h : k < n) : seqIndex? (k : Int) n = some k := by
  unfold seqIndex?
  simp
  omega
theorem ok_mixed {f fD : Addr} {fd fdD : FuncData} (F : Fun K "_law_mixed" "_law_mixed" sMixed f fd) (T : Bi mg) (D : Df K mg "_law_draw" sDraw fD fdD ["_law_pen_here", "_law_many"]) :
    FnOk P w K mg base CX0 2 f fd ["_law_pen_here", "_law_some"] spMixed := by
  have GD : FnOk P w K mg base CX0 1 fD fdD ["_law_pen_here", "_law_many"] spDraw := ok_draw D.F T
  refine F.ok scMixed (fun vs H Q E h => ?_) (fun cdv A outer s H vs Q E hr h => ?_)
  · obtain ⟨p, c, y, ns, n, xs, rfl, _⟩ := h
    rfl
  · obtain ⟨p, c, y, ns, n, xs, rfl, hP, hn, hy, hx, k⟩ := h
    have hr0 : Room 1 _ := hr
    refine ⟨_, (pss_cons (ps_set (i := 2) scMixed.nd rfl (Or.inr rfl) (pe_callTy call_list_of (by rfl) T.list (by decide +kernel) (pa_cons (pv 1) pa_nil)))
      (pss_one (ps_ret (pe_lc (own := [("_law_k", 3)]) (g := gName 3) (tt := tYes) rfl scMixed.nd (pi_range1 rfl T.range (pa_cons (pe_callB call_len_seq (by rfl) T.len PySem.boot_len (pa_cons (pv 2) pa_nil)) pa_nil)) (blkOk_by (N := nMixed) (sc := defScope sMixed) (by decide +kernel)) (fun _ _ _ _ _ => pg_name (i := 3) scMixed.nd rfl (Or.inl rfl)) (fun _ _ _ _ _ => pts_nil) (fun _ _ _ _ _ => pe_bmK (K' := K) rfl PySem.F.plainAttrs_list PySem.F.slot_list_pop PySem.F.type_list_pop (mt_popAtR _) (pv 2) (pa_cons (pe_call GD hr0 (by rfl) D.m D.F.kp D.b .nil pass0 (pa_cons (pv 0) (pa_cons (pe_callB (call_len_seqK (K' := K) rfl) (by rfl) T.len PySem.boot_len (pa_cons (pv 2) pa_nil)) pa_nil))) pa_nil)))))), ?_⟩
    refine ⟨_, rfl, y, _, rfl, .inl (SqL.of hy), fun L hL => ?_⟩
    have hLp := hP.pne hL
    have hLc := hP.cne hL
    refine ⟨_, rfl, L, _, rfl, .inl (SqL.of upd_same), _, rfl, ?_, ?_, fun D1 hD1 => ?_⟩
    · rw [List.length_map]; omega
    · rw [List.length_map]; omega
    have hne : L ≠ D1 := fun e => by rw [← e, upd_same] at hD1; cases hD1
    have hD0 : H D1 = none := by rw [upd_ne hne.symm] at hD1; exact hD1
    have hDp := hP.pne hD0
    have hDc := hP.cne hD0
    refine lc_range (lo := 0) (n := (xs.map V.str).length) (fun i Hc => ∃ acc left : List Str, (acc ++ left).Perm xs ∧ acc.length = i ∧ Hc D1 = some (.lst (acc.map V.str)) ∧ Hc L = some (.lst (left.map V.str)) ∧ Keep p H Hc ∧ Pen Hc p c ns (n + i)) ?_ ?_ ?_
    · exact ⟨[], xs, List.Perm.refl _, rfl, upd_same, by rw [upd_ne hne, upd_same], ((Keep.refl p H).new hL).new hD0, (hP.new hL).new hD1⟩
    · rintro i Hc hi ⟨acc, left, hp, hl, hD, hLh, kc, Pc⟩
      have hlen : acc.length + left.length = xs.length := by rw [← List.length_append]; exact hp.length_eq
      rw [List.length_map] at hi
      refine ⟨rfl, _, rfl, .inl ⟨rfl, _, SqL.of hLh⟩, _, rfl, _, rfl, L, _, rfl, .inl (SqL.of hLh), p, c, ns, n + i, _, rfl, Pc, by omega, ?_, ?_, fun v Hd v0 v1 kd Pd => ?_⟩
      · rw [List.length_map]; omega
      · rw [List.length_map]; omega
      rw [List.length_map] at v1
      obtain ⟨j, rfl⟩ : ∃ j : Nat, v = (j : Int) := ⟨v.toNat, (Int.toNat_of_nonneg v0).symm⟩
      have hj : j < left.length := by omega
      have hLd := kd L _ hLh hLp.symm
      have hDd := kd D1 _ hD hDp.symm
      refine ⟨L, _, _, j, V.str left[j], rfl, rfl, hLd, by omega, by omega, six (by rw [List.length_map]; exact hj), by rw [List.getElem?_map, List.getElem?_eq_getElem hj]; rfl, acc.map V.str, by rw [upd_ne hne.symm]; exact hDd, ?_, acc ++ [left[j]], left.eraseIdx j, ?_, ?_, ?_, ?_, ?_, ?_⟩
      · rw [List.length_map]; show _ < 16777216; omega
      · refine List.Perm.trans ?_ hp
        rw [List.append_assoc]
        exact List.Perm.append_left acc (perm_erase left j hj)
      · rw [List.length_append, hl]; rfl
      · rw [upd_same, List.map_append]; rfl
      · rw [upd_ne hne, upd_same, map_erase]
      · exact ((kc.trans kd).new hL).new hD0
      · exact (Pd.upd' hLp hLc).upd' hDp hDc
    · rintro Hj ⟨acc, left, hp, hl, hD, hLh, kj, Pj⟩
      have hlen : acc.length + left.length = xs.length := by rw [← List.length_append]; exact hp.length_eq
      rw [List.length_map] at hl Pj
      have hn0 : left = [] := List.length_eq_zero_iff.mp (by omega)
      subst hn0
      rw [List.append_nil] at hp
      exact k D1 acc Hj hp hD kj Pj
/-- a row of the heap -/
def rowO (r : Row) : HO := .tup ((r.1 :: r.2).map V.str)
def RowsAt (H : Hp) (ts : List Addr) (rs : List Row) : Prop := ts.length = rs.length ∧ ∀ (i : Nat) (t : Addr) (r : Row), ts[i]? = some t → rs[i]? = some r → H t = some (rowO r)
theorem RowsAt.mono {H H' : Hp} {ts : List Addr} {rs : List Row} (h : RowsAt H ts rs) (k : ∀ b r, H b = some (rowO r) → H' b = some (rowO r)) : RowsAt H' ts rs := ⟨h.1, fun i t r a b => k t r (h.2 i t r a b)⟩
theorem rowsAt_nil (H : Hp) : RowsAt H [] [] := ⟨rfl, fun i t r a => by simp at a⟩
theorem RowsAt.snoc {H : Hp} {ts : List Addr} {rs : List Row} {t : Addr} {r : Row} (h : RowsAt H ts rs) (ht : H t = some (rowO r)) : RowsAt H (ts ++ [t]) (rs ++ [r]) := by
  refine ⟨by simp [h.1], fun i u q a b => ?_⟩
  by_cases hi : i < ts.length
  · rw [List.getElem?_append_left hi] at a
    rw [List.getElem?_append_left (by rw [← h.1]; exact hi)] at b
    exact h.2 i u q a b
  · rw [List.getElem?_append_right (by omega)] at a
    rw [List.getElem?_append_right (by have := h.1; omega)] at b
    have : i - ts.length = 0 := by
      have := (List.getElem?_eq_some_iff.mp a).1
      simpa using this
    rw [this] at a
    rw [← h.1, this] at b
    simp at a b
    subst a b
    exact ht
theorem row_ne_pen {r : Row} {c : Addr} {a l : Int} : rowO r ≠ penO c a l := by
  unfold rowO penO
  intro e
  cases e
theorem Pen.row_ne {H : Hp} {p c q : Addr} {ns : List Int} {n : Nat} {r : Row} (h : Pen H p c ns n) (hq : H q = some (rowO r)) : q ≠ p := fun e => by
  obtain ⟨a, l, g, _⟩ := h.pen
  rw [e, g] at hq
  exact row_ne_pen (Option.some.inj hq).symm
theorem RowsAt.keep {H H' : Hp} {p c : Addr} {ns : List Int} {n : Nat} {ts : List Addr} {rs : List Row} (h : RowsAt H ts rs) (P : Pen H p c ns n) (k : Keep p H H') : RowsAt H' ts rs := h.mono fun b r e => k b _ e (P.row_ne e)
def spRow : Sp := fun vs H Q _ => ∃ (p c y : Addr) (ns : List Int) (n : Nat) (x : Str) (known : List Str), vs = [.ref p, .str x, .ref y] ∧ Pen H p c ns n ∧ n + 50 ≤ 100000 ∧ H y = some (.lst (known.map V.str)) ∧ known.Nodup ∧ 2 ≤ known.length ∧ known.length ≤ 33 ∧
  ∀ (t : Addr) (bs : List Str) (H' : Hp), bs ≠ [] → bs.Nodup → (∀ b ∈ bs, b ∈ known) → H' t = some (rowO (x, bs)) → Keep p H H' → Pen H' p c ns (n + 34) → Q (.ref t) H'
abbrev nRow : List Str := ["_law_pen_here", "_law_word", "_law_known", "_law_many"]
theorem scRow : FnScope nRow ["_law_pen_here", "_law_word", "_law_known"] (defScope sRow) := ⟨rfl, rfl, rfl, by decide +kernel, rfl, by decide +kernel, by decide +kernel⟩
theorem cut_take (ys : List Str) (k : Nat) : cutV (ys.map V.str) none (some (k : Int)) = (ys.take k).map V.str := by
  unfold cutV
  rw [HT.sIx_nat, HT.sIx_none, List.drop_zero, Nat.sub_zero, ← List.map_take]
  congr 1
  rw [List.length_map]
  by_cases h : k ≤ ys.length
  · rw [Nat.min_eq_left h]
  · rw [Nat.min_eq_right (by omega), List.take_of_length_le (by omega), List.take_of_length_le (by omega)]
theorem ok_row {f fP fM : Addr} {fd fdP fdM : FuncData} (F : Fun K "_law_row" "_law_row" sRow f fd) (T : Bi mg) (PK : Df K mg "_law_pick" sPick fP fdP ["_law_pen_here", "_law_some"]) (GP : FnOk P w K mg base CX0 2 fP fdP ["_law_pen_here", "_law_some"] spPick)
    (MI : Df K mg "_law_mixed" sMixed fM fdM ["_law_pen_here", "_law_some"]) (GM : FnOk P w K mg base CX0 2 fM fdM ["_law_pen_here", "_law_some"] spMixed) : FnOk P w K mg base CX0 3 f fd ["_law_pen_here", "_law_word", "_law_known"] spRow := by
  refine F.ok scRow (fun vs H Q E h => ?_) (fun cdv A outer s H vs Q E hr h => ?_)
  · obtain ⟨p, c, y, ns, n, x, known, rfl, _⟩ := h
    rfl
  · obtain ⟨p, c, y, ns, n, x, known, rfl, hP, hn, hy, hnd, h2, h33, k⟩ := h
    have hr1 : Room 2 _ := hr
    refine ⟨_, (pss_cons (ps_set (i := 3) scRow.nd rfl (Or.inl rfl) (pe_call GP hr1 (by rfl) PK.m PK.F.kp PK.b .nil pass0 (pa_cons (pv 0) (pa_cons (pe_lst (pa_cons pe_int (pa_cons pe_int (pa_cons pe_int (pa_cons pe_int (pa_cons pe_int (pa_cons (pe_callB call_len_seq (by rfl) T.len PySem.boot_len (pa_cons (pv 2) pa_nil)) pa_nil))))))) pa_nil))))
      (pss_one (ps_ret (pe_op op_catT (pe_tup (pa_cons (pv 1) pa_nil)) (pe_callTy call_tuple_of (by rfl) T.tuple (by decide +kernel) (pa_cons (pe_slice sl_list (pe_call GM hr1 (by rfl) MI.m MI.F.kp MI.b .nil pass0 (pa_cons (pv 0) (pa_cons (pv 2) pa_nil))) po_none (po_some (pv 3))) pa_nil)))))), ?_⟩
    refine ⟨_, rfl, _, rfl, y, _, rfl, .inl (SqL.of hy), (by show 6 ≤ sizeLine; decide), fun l6 h6 => ?_⟩
    refine ⟨p, c, ns, n, _, _, rfl, hP.new h6, by omega, .inl ⟨l6, rfl, (hP.pne h6).symm, upd_same⟩, by simp, (by show 6 ≤ 1000; decide), fun j v H1 hv k1 P1 => ?_⟩
    obtain ⟨m, rfl, hm⟩ : ∃ m : Nat, v = .int (m : Int) ∧ 1 ≤ m := by
      have hm6 := List.mem_of_getElem? hv
      simp only [List.mem_cons, List.not_mem_nil, or_false] at hm6
      rcases hm6 with rfl | rfl | rfl | rfl | rfl | rfl
      · exact ⟨1, rfl, by omega⟩
      · exact ⟨1, rfl, by omega⟩
      · exact ⟨2, rfl, by omega⟩
      · exact ⟨2, rfl, by omega⟩
      · exact ⟨3, rfl, by omega⟩
      · exact ⟨_, rfl, by rw [List.length_map]; omega⟩
    have k1' : Keep p H H1 := ((Keep.refl p H).new h6).trans k1
    have hy1 := k1' y _ hy (hP.strs_ne hy)
    -- (word,) + tuple(mixed(pen, known)[:many])
    refine ⟨_, rfl, (by show 1 ≤ sizeLine; decide), fun t1 ht1 => ?_⟩
    refine ⟨_, rfl, _, rfl, p, c, y, ns, n + 1, known, rfl, P1.new ht1, by omega, by rw [upd_ne (ne_of_none hy1 ht1)]; exact hy1, h33, fun lm ys H2 hp hlm k2 P2 => ?_⟩
    have k2' : Keep p H H2 := (k1'.new (k1'.fresh P1 ht1)).trans k2
    have ht2 : H2 t1 = some (.tup [.str x]) := k2 t1 _ upd_same (P1.pne ht1).symm
    refine ⟨_, rfl, _, rfl, lm, _, rfl, SqL.of hlm, fun l7 h7 => ?_⟩
    refine ⟨l7, _, rfl, .inl ⟨SqL.of upd_same, fun t3 ht3 => ?_⟩⟩
    have n71 : t1 ≠ l7 := ne_of_none ht2 h7
    have h71 : (upd H2 l7 (.lst (cutV (ys.map V.str) none (some (m : Int))))) t1 = some (.tup [.str x]) := by rw [upd_ne n71]; exact ht2
    have n13 : t1 ≠ t3 := ne_of_none h71 ht3
    have hyl : ys.length = known.length := hp.length_eq
    have hcut := cut_take ys m
    have htn : ys.take m ≠ [] := fun e => by
      have h3 := congrArg List.length e
      rw [List.length_take, List.length_nil] at h3
      omega
    have htl : (ys.take m).length ≤ 33 := by rw [List.length_take]; omega
    rw [hcut] at ht3 ⊢
    refine ⟨t1, t3, [.str x], (ys.take m).map V.str, rfl, rfl, SqT.of (by rw [upd_ne n13, upd_ne n71]; exact ht2), SqT.of upd_same, by simp, ?_, fun e => absurd (List.map_eq_nil_iff.mp e) htn, fun _ t4 ht4 => ?_⟩
    · rw [List.length_map]; show 1 + _ ≤ 16777216; omega
    have f7 : H l7 = none := k2'.fresh P2 h7
    have P7 := P2.new (o := .lst ((ys.take m).map V.str)) h7
    have k7 : Keep p H (upd H2 l7 (.lst ((ys.take m).map V.str))) := k2'.new f7
    have k8 := k7.new (o := .tup ((ys.take m).map V.str)) (k7.fresh P7 ht3)
    have P8 := P7.new (o := .tup ((ys.take m).map V.str)) ht3
    refine k t4 (ys.take m) _ htn ((hp.nodup_iff.mpr hnd).sublist (List.take_sublist _ _)) (fun b hb => hp.mem_iff.mp (List.mem_of_mem_take hb)) upd_same (k8.new (k8.fresh P8 ht4)) ((P8.new ht4).mono (by omega))
abbrev nRows : List Str := ["_law_pen_here", "_law_words_here", "_law_known", "_law_found", "_law_word"]
theorem scRows : FnScope nRows ["_law_pen_here", "_law_words_here"] (defScope sRows) := ⟨rfl, rfl, rfl, by decide +kernel, rfl, by decide +kernel, by decide +kernel⟩
def spRows : Sp := fun vs H Q _ => ∃ (p c y : Addr) (ns : List Int) (n : Nat) (ws : List Str), vs = [.ref p, .ref y] ∧ Pen H p c ns n ∧ n + 2000 ≤ 100000 ∧ H y = some (.lst (ws.map V.str)) ∧ Words ws ∧ ws.length ≤ 31 ∧
  ∀ (l : Addr) (ts : List Addr) (rs : List Row) (H' : Hp), Good rs → rs.map (·.1) = ws → RowsAt H' ts rs → H' l = some (.lst (ts.map V.ref)) → Keep p H H' → Pen H' p c ns (n + 1500) → Q (.ref l) H'
theorem ok_rows {f fR : Addr} {fd fdR : FuncData} (F : Fun K "_law_rows" "_law_rows" sRows f fd) (RO : Df K mg "_law_row" sRow fR fdR ["_law_pen_here", "_law_word", "_law_known"]) (GR : FnOk P w K mg base CX0 3 fR fdR ["_law_pen_here", "_law_word", "_law_known"] spRow) :
    FnOk P w K mg base CX0 4 f fd ["_law_pen_here", "_law_words_here"] spRows := by
  refine F.ok scRows (fun vs H Q E h => ?_) (fun cdv A outer s H vs Q E hr h => ?_)
  · obtain ⟨p, c, y, ns, n, ws, rfl, _⟩ := h
    rfl
  · obtain ⟨p, c, y, ns, n, ws, rfl, hP, hn, hy, hw, h31, k⟩ := h
    have hr2 : Room 3 _ := hr
    refine ⟨_, (pss_cons (ps_set (i := 2) scRows.nd rfl (Or.inl rfl) (pe_lst (pa_cons pe_str (pa_cons pe_str pa_nil))))
      (pss_cons (ps_set (i := 3) scRows.nd rfl (Or.inl rfl) (pe_lst pa_nil))
      (pss_cons (ps_for PassesOwn.never rfl (pi_list (pv 1)) (pg_name (i := 4) scRows.nd rfl (Or.inl rfl))
      (pss_cons (ps_expr (pe_bm PySem.F.plainAttrs_list PySem.F.slot_list_append PySem.F.type_list_append mt_append (pv 3) (pa_cons (pe_call GR hr2 (by rfl) RO.m RO.F.kp RO.b .nil pass0 (pa_cons (pv 0) (pa_cons (pv 4) (pa_cons (pv 2) pa_nil)))) pa_nil)))
        (pss_one (ps_expr (pe_bm PySem.F.plainAttrs_list PySem.F.slot_list_append PySem.F.type_list_append mt_append (pv 2) (pa_cons (pv 4) pa_nil))))))
      (pss_one (ps_ret (pv 3)))))), ?_⟩
    refine ⟨(by show 2 ≤ sizeLine; decide), fun kn hkn => ⟨Nat.zero_le _, fun fl hfl => ?_⟩⟩
    have nkf : kn ≠ fl := fun e => by rw [← e, upd_same] at hfl; cases hfl
    have hfl0 : H fl = none := by rw [upd_ne nkf.symm] at hfl; exact hfl
    have pk := hP.pne hkn
    have ck := hP.cne hkn
    have pf := hP.pne hfl0
    have cf := hP.cne hfl0
    refine ⟨_, rfl, y, rfl, ⟨_, SqL.of (by rw [upd_ne (ne_of_none hy hfl0), upd_ne (ne_of_none hy hkn)]; exact hy)⟩, for_list (K := K) (a := y) (xs := ws.map V.str)
      (fun i σ Hc => ∃ (rs : List Row) (ts : List Addr) (v4 : Option V), σ = [some (.ref p), some (.ref y), some (.ref kn), some (.ref fl), v4] ∧ Good rs ∧ rs.map (·.1) = ws.take i ∧ RowsAt Hc ts rs ∧ Hc kn = some (.lst ((base0 ++ ws.take i).map V.str)) ∧ Hc fl = some (.lst (ts.map V.ref)) ∧ Keep p H Hc ∧ Pen Hc p c ns (n + 34 * i)) ?_ ?_ ?_ ?_⟩
    · refine ⟨[], [], none, rfl, good_nil, rfl, rowsAt_nil _, by rw [upd_ne nkf, upd_same]; rfl, upd_same, ((Keep.refl p H).new hkn).new hfl0, (hP.new hkn).new hfl⟩
    · rintro i σ Hc hi ⟨rs, ts, v4, rfl, g, en, R, hK, hF, kc, Pc⟩
      exact SqL.of (kc y _ hy (hP.strs_ne hy))
    · rintro i x σ Hc hi ⟨rs, ts, v4, rfl, g, en, R, hK, hF, kc, Pc⟩
      have hil : i < ws.length := by
        have := (List.getElem?_eq_some_iff.mp hi).1
        rwa [List.length_map] at this
      have hwi : ws[i]? = some ws[i] := List.getElem?_eq_getElem hil
      rw [List.getElem?_map, hwi] at hi
      cases hi
      have hrl : rs.length = i := by
        have := congrArg List.length en
        rw [List.length_map, List.length_take] at this
        omega
      have hkl : (base0 ++ ws.take i).length = i + 2 := by
        simp [base0, List.length_take]
        omega
      have hnd : (base0 ++ ws.take i).Nodup := by
        have := g.nodup rs.length (Nat.le_refl _)
        unfold knownAt at this
        rw [List.take_length, en] at this
        exact this
      refine ⟨_, rfl, .inl ⟨rfl, _, SqL.of hF⟩, _, rfl, _, rfl, _, rfl, p, c, kn, ns, n + 34 * i, ws[i], base0 ++ ws.take i, rfl, Pc, by omega, hK, hnd, by omega, by omega, fun t bs Hd b1 b2 b3 ht kd Pd => ?_⟩
      have hFd := kd fl _ hF pf.symm
      have hKd := kd kn _ hK pk.symm
      refine ⟨fl, _, _, rfl, rfl, hFd, ?_, ?_⟩
      · rw [List.length_map, R.1, hrl]; show _ < 16777216; omega
      refine ⟨_, rfl, .inl ⟨rfl, _, SqL.of (by rw [upd_ne nkf]; exact hKd)⟩, _, rfl, kn, _, _, rfl, rfl, by rw [upd_ne nkf]; exact hKd, ?_, ?_⟩
      · rw [List.length_map, hkl]; show _ < 16777216; omega
      have etk : ws.take (i + 1) = ws.take i ++ [ws[i]] := by rw [List.take_add_one, hwi]; rfl
      have hnew : ws[i] ∉ base0 ++ ws.take i := by
        intro hm
        rcases List.mem_append.mp hm with hm | hm
        · have := hw.nb ws[i] (List.getElem_mem _)
          unfold base0 at hm
          rcases List.mem_cons.mp hm with e | hm
          · rw [e] at this; exact this err_barred
          · have e : ws[i] = sVac := by simpa using hm
            rw [e] at this; exact this vac_barred
        · have := List.nodup_append.mp (etk ▸ hw.nd.sublist (List.take_sublist (i + 1) ws))
          exact this.2.2 _ hm _ (by simp) rfl
      have hFe : ∀ o o', (upd (upd Hd fl o) kn o') fl = some o := fun o o' => by rw [upd_ne nkf.symm, upd_same]
      have row1 : ∀ b r, Hd b = some (rowO r) → ∀ xs ys, (upd (upd Hd fl (.lst xs)) kn (.lst ys)) b = some (rowO r) := fun b r e xs ys => by
        have h1 : b ≠ fl := ne_of e hFd (by unfold rowO; intro z; cases z)
        have h2 : b ≠ kn := ne_of e hKd (by unfold rowO; intro z; cases z)
        rw [upd_ne h2, upd_ne h1]
        exact e
      refine ⟨rs ++ [(ws[i], bs)], ts ++ [t], _, rfl, good_snoc g (by rw [en]; exact ⟨hw.vw _ (List.getElem_mem _), hnew, b1, b2, b3⟩), by rw [List.map_append, en, etk]; rfl, ?_, ?_, ?_, ?_, ?_⟩
      · exact ((R.keep Pc kd).mono fun b r e => row1 b r e _ _).snoc (row1 t _ ht _ _)
      · rw [upd_same, etk, ← List.append_assoc, List.map_append (l₂ := [ws[i]])]
        rfl
      · rw [hFe, List.map_append]
        rfl
      · exact ((kc.trans kd).new hfl0).new hkn
      · exact ((Pd.upd' pf cf).upd' pk ck).mono (by omega)
    · rintro σ Hc ⟨rs, ts, v4, rfl, g, en, R, hK, hF, kc, Pc⟩
      rw [List.length_map] at en Pc
      rw [List.take_length] at en
      exact ⟨_, rfl, k fl ts rs Hc g en R hF kc (Pc.mono (by omega))⟩
end
end K2
end
section
set_option Elab.async false
set_option maxRecDepth 100000
set_option linter.all false
namespace K2
open PySem L2
theorem _root_.L2.Same.put {H H1 : Hp} {q : Addr} {o : HO} (k : Same H H1) (h : H q = none) : Same H (upd H1 q o) := fun b u hb => by
  rw [upd_ne (ne_of_none hb h)]
  exact k b u hb
theorem Pen.same {H H' : Hp} {p c : Addr} {ns : List Int} {n : Nat} (h : Pen H p c ns n) (k : Same H H') : Pen H' p c ns n := by
  obtain ⟨a, l, g, g1, g2, g3⟩ := h.pen
  exact ⟨⟨a, l, k _ _ g, g1, g2, g3⟩, k _ _ h.cells, h.small⟩
theorem _root_.L2.Same.keep {p : Addr} {H H' : Hp} (k : Same H H') : Keep p H H' := fun b o h _ => k b o h
theorem dget_s {H : Hp} {a : Addr} {kvs : List (Key × V)} {x : Str} {v : V} (e : H a = some (.dK kvs)) (hv : valV kvs (Sum.inr x : Key) = some v) : DGet H a (.str x) (some v) := by
  have := DGet.k (k := (Sum.inr x : Key)) e
  rw [hv] at this
  exact this
theorem cutV_whole {xs : List V} {lo hi : Option Int} (h : HT.sIx xs.length 0 lo = 0 ∧ HT.sIx xs.length xs.length hi = xs.length) : cutV xs lo hi = xs := by
  unfold cutV
  rw [h.1, h.2, List.drop_zero, Nat.sub_zero, List.take_length]
def rSl2 : V → Option Int → Option Int → Hp → VK → Prop := fun x lo hi H Q => ∃ a xs, x = .ref a ∧ H a = some (.tup xs) ∧ ∀ p H1, Same H H1 → H1 p = some (.tup (cutV xs lo hi)) → Q (.ref p) H1
def rCat2 : R2 := fun x y H Q => ∃ a b xs ys, x = .ref a ∧ y = .ref b ∧ H a = some (.tup xs) ∧ H b = some (.tup ys) ∧ xs.length + ys.length ≤ sizeLine ∧ ∀ p H1, Same H H1 → H1 p = some (.tup (xs ++ ys)) → Q (.ref p) H1
section
variable {X : Cx}
theorem sl_tup2 : SlR X rSl2 := by
  intro pins s σ H x v vl vu lo hi sl Q I rx hs pl pu h
  obtain ⟨a, xs, rfl, ha, q⟩ := h
  exact sl_tupA pins s σ H _ v vl vu lo hi sl Q I rx hs pl pu ⟨a, xs, rfl, SqT.of ha, fun hw => q a H (Same.refl H) (by rw [cutV_whole hw]; exact ha), fun _ p hp => q p _ ((Same.refl H).put hp) upd_same⟩
theorem op_cat2 : OpR X (binaryOp .Add) rCat2 := by
  intro pins s σ H x y v u Q I rx ry h
  obtain ⟨a, b, xs, ys, rfl, rfl, ha, hb, hz, q⟩ := h
  refine op_catA pins s σ H _ _ v u Q I rx ry ⟨a, b, xs, ys, rfl, rfl, SqT.of ha, SqT.of hb, hz, fun e => q b H (Same.refl H) (by rw [e]; exact hb), fun _ e => q a H (Same.refl H) (by rw [e, List.append_nil]; exact ha), fun _ _ p hp => q p _ ((Same.refl H).put hp) upd_same⟩
end
end K2
end
section
set_option Elab.async false
set_option maxRecDepth 100000
set_option linter.all false
namespace K2
open PySem L2
abbrev sLight : Stmt := top 25
abbrev nLight : List Str := ["_law_lines", "_law_ways", "_law_found", "_law_row_here", "_law_kept", "_law_many", "_law_base"]
theorem names_sub {rs qs : List Row} (hl : qs.length = rs.length) (h : ∀ (i : Nat) (r q : Row), rs[i]? = some r → qs[i]? = some q → Sub1 r q) : qs.map (·.1) = rs.map (·.1) := by
  apply List.ext_getElem?
  intro i
  rw [List.getElem?_map, List.getElem?_map]
  by_cases hi : i < rs.length
  · have h1 : rs[i]? = some rs[i] := List.getElem?_eq_getElem hi
    have h2 : qs[i]? = some (qs[i]'(by omega)) := List.getElem?_eq_getElem _
    rw [h1, h2]
    exact congrArg some (h i _ _ h1 h2).nm
  · rw [List.getElem?_eq_none (by omega), List.getElem?_eq_none (by omega)]
def HasI (kvs : List (Key × V)) (xs : List Str) : Prop := ∀ x ∈ xs, ∃ z : Int, valV kvs (Sum.inr x : Key) = some (.int z)
theorem HasI.put {kvs : List (Key × V)} {xs : List Str} (h : HasI kvs xs) (x : Str) (z : Int) : HasI (putK kvs (Sum.inr x : Key) (.int z)) (xs ++ [x]) := by
  intro y hy
  rw [valV_put]
  by_cases e : (Sum.inr y : Key) = Sum.inr x
  · rw [if_pos e]; exact ⟨z, rfl⟩
  · rw [if_neg e]
    rcases List.mem_append.mp hy with hy | hy
    · exact h y hy
    · have : y = x := by simpa using hy
      exact absurd (by rw [this]) e
def ways0 : List (Key × V) := mergeK [] [(Sum.inr (Str.ofString "error"), V.int 1), (Sum.inr (Str.ofString "vacant"), V.int 2)]
theorem ways0_has : HasI ways0 base0 := by
  intro x hx
  unfold base0 at hx
  rcases List.mem_cons.mp hx with rfl | hx
  · exact ⟨1, by decide +kernel⟩
  · have : x = sVac := by simpa using hx
    subst this
    exact ⟨2, by decide +kernel⟩
theorem ways0_len : ways0.length ≤ 2 := by decide +kernel
theorem putK_le (c : List (Key × V)) (k : Key) (x : V) : (putK c k x).length ≤ c.length + 1 := by
  unfold putK
  split
  · rw [List.length_map]; omega
  · rw [List.length_append]; simp
def spLight : Sp := fun vs H Q _ => ∃ (l : Addr) (ts : List Addr) (rs : List Row), vs = [.ref l] ∧ H l = some (.lst (ts.map V.ref)) ∧ RowsAt H ts rs ∧ Good rs ∧ rs.length ≤ 31 ∧
  ∀ (l' : Addr) (ts' : List Addr) (qs : List Row) (H' : Hp), Good qs → qs.length = rs.length → qs.map (·.1) = rs.map (·.1) → RowsAt H' ts' qs → H' l' = some (.lst (ts'.map V.ref)) → Same H H' → Q (.ref l') H'
theorem cut2 (x b : Str) (bs : List Str) : cutV ((x :: b :: bs).map V.str) none (some 2) = [x, b].map V.str := by
  have := cut_take (x :: b :: bs) 2
  exact this
theorem cut2' (x b : Str) (bs : List Str) : cutV ((x :: b :: bs).map V.str) (some 2) none = bs.map V.str := by
  unfold cutV
  rw [show (2 : Int) = ((2 : Nat) : Int) from rfl, HT.sIx_nat, HT.sIx_none, List.length_map]
  have : min 2 (x :: b :: bs).length = 2 := by simp
  rw [this]
  show (bs.map V.str).take ((x :: b :: bs).length - 2) = bs.map V.str
  rw [List.take_of_length_le (by simp)]
theorem sub_snoc {bs ks : List Str} {j : Nat} {b : Str} (h : ks.Sublist (bs.take j)) (hb : bs[j]? = some b) : (ks ++ [b]).Sublist (bs.take (j + 1)) := by
  rw [List.take_add_one, hb]
  exact h.append (List.Sublist.refl _)
section
variable {P : Program} {w : World} {K : PySem.W.Frag} {mg : Str → Option Value} {base : Heap}
theorem scLight : FnScope nLight ["_law_lines"] (defScope sLight) := ⟨rfl, rfl, rfl, by decide +kernel, rfl, by decide +kernel, by decide +kernel⟩
theorem ok_light {f : Addr} {fd : FuncData} (F : Fun K "_law_light" "_law_light" sLight f fd) : FnOk P w K mg base CX0 1 f fd ["_law_lines"] spLight := by
  refine F.ok scLight (fun vs H Q E h => ?_) (fun cdv A outer s H vs Q E hr h => ?_)
  · obtain ⟨l, ts, rs, rfl, _⟩ := h
    rfl
  · obtain ⟨l, ts, rs, rfl, hl, R, g, h31, k⟩ := h
    have hu := hu_of hr
    refine ⟨_, (pss_cons (ps_set (i := 1) scLight.nd rfl (Or.inl rfl) (pe_disp (pps_cons pe_str pe_int (pps_cons pe_str pe_int pps_nil)) (by rfl) (by rfl) (fun z => by cases z) (by decide)))
      (pss_cons (ps_set (i := 2) scLight.nd rfl (Or.inl rfl) (pe_lst pa_nil))
      (pss_cons (ps_for PassesOwn.never rfl (pi_list (pv 0)) (pg_name (i := 3) scLight.nd rfl (Or.inl rfl))
      (pss_cons (ps_par (i := 4) (j := 5) (by rfl) scLight.nd rfl rfl (by decide) rfl rfl (pa_cons (pe_slice sl_tup2 (pv 3) po_none (po_some pe_int)) (pa_cons (pe_op op_add pe_int (pe_dget hu (pv 1) (pe_ix ix_tup (pv 3) pe_int (fun _ _ => rfl)) (fun _ _ => rfl))) pa_nil)) (by rfl))
        (pss_cons (ps_for PassesOwn.never rfl (pi_tup (pe_slice sl_tup2 (pv 3) (po_some pe_int) po_none)) (pg_name (i := 6) scLight.nd rfl (Or.inl rfl))
        (pss_one (ps_if (pt_cmpR op_lt (pe_op op_add (pv 5) (pe_dget hu (pv 1) (pv 6) (fun _ _ => rfl))) pe_int (nomark _))
          (pss_one (ps_par (i := 4) (j := 5) (by rfl) scLight.nd rfl rfl (by decide) rfl rfl (pa_cons (pe_op op_cat2 (pv 4) (pe_tup (pa_cons (pv 6) pa_nil))) (pa_cons (pe_op op_add (pv 5) (pe_dget hu (pv 1) (pv 6) (fun _ _ => rfl))) pa_nil)) (by rfl)))
          pss_nil)))
        (pss_cons (ps_dput hu (pv 1) (pe_ix ix_tup (pv 3) pe_int (fun _ _ => rfl)) (pv 5) rfl)
        (pss_one (ps_expr (pe_bm PySem.F.plainAttrs_list PySem.F.slot_list_append PySem.F.type_list_append mt_append (pv 2) (pa_cons (pv 4) pa_nil))))))))
      (pss_one (ps_ret (pv 2)))))), ?_⟩
    refine fun d hd => ⟨upd_same, [(Sum.inr (Str.ofString "error"), V.int 1), (Sum.inr (Str.ofString "vacant"), V.int 2)], rfl, by decide, ?_⟩
    rw [upd_upd]
    refine ⟨Nat.zero_le _, fun fl hfl => ?_⟩
    have nkf : d ≠ fl := fun e => by rw [← e, upd_same] at hfl; cases hfl
    have hfl0 : H fl = none := by rw [upd_ne nkf.symm] at hfl; exact hfl
    refine ⟨_, rfl, l, rfl, ⟨_, SqL.of (by rw [upd_ne (ne_of_none hl hfl0), upd_ne (ne_of_none hl hd)]; exact hl)⟩, for_list (K := K) (a := l) (xs := ts.map V.ref)
      (fun i σ Hc => ∃ (qs : List Row) (ts' : List Addr) (kvs : List (Key × V)) (v3 v4 v5 v6 : Option V), σ = [some (.ref l), some (.ref d), some (.ref fl), v3, v4, v5, v6] ∧ qs.length = i ∧ (∀ (j : Nat) (r q : Row), rs[j]? = some r → qs[j]? = some q → Sub1 r q) ∧
        RowsAt Hc ts' qs ∧ Hc d = some (.dK kvs) ∧ kvs.length ≤ i + 2 ∧ HasI kvs (knownAt rs i) ∧ Hc fl = some (.lst (ts'.map V.ref)) ∧ Same H Hc) ?_ ?_ ?_ ?_⟩
    · exact ⟨[], [], ways0, _, _, _, _, rfl, rfl, fun j r q _ h => by simp at h, rowsAt_nil _, by rw [upd_ne nkf, upd_same]; rfl, ways0_len, ways0_has, upd_same, ((Same.refl H).put hd).put hfl0⟩
    · rintro i σ Hc hi ⟨qs, ts', kvs, v3, v4, v5, v6, rfl, _, _, _, _, _, _, _, sm⟩
      exact SqL.of (sm l _ hl)
    · rintro i x σ Hc hi ⟨qs, ts', kvs, v3, v4, v5, v6, rfl, hql, hsub, RQ, hD, hkl, hhas, hF, sm⟩
      have hil : i < rs.length := by
        have := (List.getElem?_eq_some_iff.mp hi).1
        rw [List.length_map, R.1] at this
        exact this
      have hti : ts[i]? = some (ts[i]'(by rw [R.1]; exact hil)) := List.getElem?_eq_getElem _
      rw [List.getElem?_map, hti] at hi
      generalize ts[i]'(by rw [R.1]; exact hil) = t at hti hi
      cases hi
      have hri : rs[i]? = some rs[i] := List.getElem?_eq_getElem hil
      have ht := sm t _ (R.2 i t _ hti hri)
      have RO := g i _ hri
      generalize rs[i] = r at hri ht RO
      obtain ⟨x, bs0⟩ := r
      cases bs0 with
      | nil => exact absurd rfl RO.ne
      | cons b bs =>
      unfold rowO at ht
      obtain ⟨z0, hz0⟩ := hhas b (RO.sub b (by simp))
      refine ⟨_, rfl, _, rfl, t, _, rfl, ht, fun kp H1 s1 hkp => ?_⟩
      rw [cut2] at hkp
      refine ⟨_, rfl, _, rfl, t, _, _, _, rfl, rfl, SqT.of (s1 t _ ht), atI_nat (j := 1) rfl, d, _, rfl, dget_s (s1 d _ hD) hz0, _, _, rfl, rfl, _, _, rfl, ?_⟩
      refine ⟨_, rfl, _, rfl, t, _, rfl, s1 t _ ht, fun rp H2 s2 hrp => ?_⟩
      rw [cut2'] at hrp
      have s12 := sm.trans (s1.trans s2)
      have ht2 := s2 t _ (s1 t _ ht)
      have hD2 := s2 d _ (s1 d _ hD)
      have hF2 := s2 fl _ (s1 fl _ hF)
      refine ⟨rp, rfl, ⟨_, SqT.of hrp⟩, for_tup (K := K) (a := rp) (xs := bs.map V.str)
        (fun j σ Hd => ∃ (kp : Addr) (ks : List Str) (z : Int) (v6 : Option V), σ = [some (.ref l), some (.ref d), some (.ref fl), some (.ref t), some (.ref kp), some (.int z), v6] ∧ Same H2 Hd ∧ Hd kp = some (rowO (x, b :: ks)) ∧ ks.Sublist (bs.take j)) ?_ ?_ ?_ ?_⟩
      · exact ⟨kp, [], _, _, rfl, Same.refl _, s2 kp _ hkp, List.nil_sublist _⟩
      · rintro j σ Hd _ ⟨kp, ks, z, v6, rfl, sd, _, _⟩
        exact SqT.of (sd rp _ hrp)
      · rintro j y σ Hd hj ⟨kp, ks, z, v6, rfl, sd, hk, hs⟩
        have hjl : j < bs.length := by
          have := (List.getElem?_eq_some_iff.mp hj).1
          rwa [List.length_map] at this
        have hbj : bs[j]? = some bs[j] := List.getElem?_eq_getElem hjl
        rw [List.getElem?_map, hbj] at hj
        cases hj
        obtain ⟨z1, hz1⟩ := hhas bs[j] (RO.sub _ (List.mem_cons_of_mem _ (List.getElem_mem hjl)))
        refine ⟨_, rfl, _, rfl, _, rfl, d, _, rfl, dget_s (sd d _ hD2) hz1, _, _, rfl, rfl, _, _, rfl, rfl, _, rfl, ite2 (fun _ => ?_) (fun _ => ?_)⟩
        · refine ⟨_, rfl, _, rfl, (by show 1 ≤ sizeLine; decide), fun t5 h5 => ?_⟩
          have s5 := (Same.refl Hd).put (o := .tup [V.str bs[j]]) h5
          unfold rowO at hk
          refine ⟨kp, t5, _, _, rfl, rfl, s5 kp _ hk, upd_same, ?_, fun t6 H6 s6 h6 => ?_⟩
          · have := hs.length_le
            have h7 : bs.length ≤ 31 := by
              have q := RO.nd.length_le_of_subset (RO.sub)
              rw [knownAt_len (Nat.le_of_lt hil), List.length_cons] at q
              omega
            rw [List.length_take] at this
            simp
            show _ ≤ 16777216
            omega
          refine ⟨_, rfl, _, rfl, _, rfl, d, _, rfl, dget_s (s6 d _ (s5 d _ (sd d _ hD2))) hz1, _, _, rfl, rfl, _, _, rfl, ?_⟩
          exact ⟨t6, ks ++ [bs[j]], _, _, rfl, sd.trans (s5.trans s6), by rw [h6]; simp [rowO], sub_snoc hs hbj⟩
        · refine ⟨kp, ks, _, _, rfl, sd, hk, ?_⟩
          exact hs.trans (List.take_sublist_take_left (by omega))
      · rintro σ Hd ⟨kp, ks, z, v6, rfl, sd, hk, hs⟩
        rw [List.length_map, List.take_length] at hs
        have hDd := sd d _ hD2
        have hFd := sd fl _ hF2
        have htd := sd t _ ht2
        refine ⟨_, rfl, _, rfl, _, rfl, t, _, _, _, rfl, rfl, SqT.of htd, atI_nat (j := 0) rfl, d, _, rfl, DPut.k (k := Sum.inr x) hDd (by show _ < 16777216; omega), ?_⟩
        refine ⟨_, rfl, .inl ⟨rfl, _, SqL.of (by rw [upd_ne nkf.symm]; exact hFd)⟩, _, rfl, fl, _, _, rfl, rfl, by rw [upd_ne nkf.symm]; exact hFd, ?_, ?_⟩
        · rw [List.length_map, RQ.1, hql]; show _ < 16777216; omega
        have rk : ∀ (o1 o2 : HO) (q : Addr) (r : Row), Hd q = some (rowO r) → (upd (upd Hd d o1) fl o2) q = some (rowO r) := fun o1 o2 q r hq => by
          have h1 : q ≠ d := ne_of hq hDd (by unfold rowO; intro z; cases z)
          have h2 : q ≠ fl := ne_of hq hFd (by unfold rowO; intro z; cases z)
          rw [upd_ne h2, upd_ne h1]
          exact hq
        refine ⟨qs ++ [(x, b :: ks)], ts' ++ [kp], _, _, _, _, _, rfl, by rw [List.length_append, hql]; rfl, ?_, ?_, by rw [upd_ne nkf, upd_same], ?_, ?_, by rw [upd_same, List.map_append]; rfl, ((s12.trans sd).put hd).put hfl0⟩
        · intro j r' q hr' hq
          by_cases hj : j < qs.length
          · rw [List.getElem?_append_left hj] at hq
            exact hsub j r' q hr' hq
          · have hj2 : j = i := by
              have := (List.getElem?_eq_some_iff.mp hq).1
              rw [List.length_append] at this
              simp at this
              omega
            subst hj2
            rw [List.getElem?_append_right (by omega), hql, Nat.sub_self] at hq
            cases hq
            rw [hri] at hr'
            cases hr'
            exact ⟨rfl, hs.cons₂ b, by simp⟩
        · exact (RQ.mono fun q r hq => rk _ _ q r ((s1.trans (s2.trans sd)) q _ hq)).snoc (rk _ _ kp _ hk)
        · have := putK_le kvs (Sum.inr x) (V.int z)
          omega
        · rw [knownAt_succ hri]
          exact hhas.put x z
    · rintro σ Hc ⟨qs, ts', kvs, v3, v4, v5, v6, rfl, hql, hsub, RQ, hD, hkl, hhas, hF, sm⟩
      rw [List.length_map, R.1] at hql
      exact ⟨_, rfl, k fl ts' qs Hc (good_sub g hql hsub) hql (names_sub hql hsub) RQ hF sm⟩
end
end K2
end
section
set_option Elab.async false
set_option maxRecDepth 100000
set_option linter.all false
namespace K2
open PySem L2
abbrev nUppers : List Str := ["_law_rows_here", "_law_found", "_law_row_here", "_law_mine", "_law_base", "_law_one"]
/-- a dict of the heap from names to objects that hold lists of names -/
inductive Tab (f : List Str → HO) (H : Hp) : List (Key × V) → Tb → Prop where
  | nil : Tab f H [] []
  | cons {x : Str} {us : List Str} {a : Addr} {kvs : List (Key × V)} {t : Tb} : H a = some (f us) → Tab f H kvs t → Tab f H ((Sum.inr x, .ref a) :: kvs) ((x, us) :: t)
theorem Tab.snoc {f : List Str → HO} {H : Hp} {kvs : List (Key × V)} {t : Tb} (h : Tab f H kvs t) {x : Str} {us : List Str} {a : Addr} (ha : H a = some (f us)) : Tab f H (kvs ++ [(Sum.inr x, .ref a)]) (t ++ [(x, us)]) := by
  induction h with
  | nil => exact .cons ha .nil
  | cons h1 _ ih => exact .cons h1 ih
theorem Tab.mono {f : List Str → HO} {H H' : Hp} {kvs : List (Key × V)} {t : Tb} (h : Tab f H kvs t) (k : ∀ a us, H a = some (f us) → H' a = some (f us)) : Tab f H' kvs t := by
  induction h with
  | nil => exact .nil
  | cons h1 _ ih => exact .cons (k _ _ h1) ih
theorem Tab.len {f : List Str → HO} {H : Hp} {kvs : List (Key × V)} {t : Tb} (h : Tab f H kvs t) : kvs.length = t.length := by
  induction h with
  | nil => rfl
  | cons _ _ ih => rw [List.length_cons, List.length_cons, ih]
theorem valV_cons (k : Key) (v : V) (kvs : List (Key × V)) (j : Key) : valV ((k, v) :: kvs) j = if k = j then some v else valV kvs j := by
  unfold valV
  rw [List.find?_cons]
  by_cases e : k = j
  · simp [e]
  · simp [e]
theorem Tab.val {f : List Str → HO} {H : Hp} {kvs : List (Key × V)} {t : Tb} (h : Tab f H kvs t) {x : Str} (hx : x ∈ keys t) : ∃ a, valV kvs (Sum.inr x : Key) = some (.ref a) ∧ H a = some (f (look t x)) := by
  induction h with
  | nil => simp [keys] at hx
  | @cons y us a kvs t h1 _ ih =>
    rw [valV_cons]
    by_cases e : y = x
    · subst e
      exact ⟨a, by rw [if_pos rfl], by simp only [look, if_true]; exact h1⟩
    · have e2 : ¬ (Sum.inr y : Key) = Sum.inr x := fun q => e (Sum.inr.inj q)
      rw [if_neg e2]
      simp only [look, if_neg e]
      refine ih ?_
      unfold keys at hx ⊢
      rcases List.mem_cons.mp hx with q | q
      · exact absurd q.symm e
      · exact q
theorem Tab.none {f : List Str → HO} {H : Hp} {kvs : List (Key × V)} {t : Tb} (h : Tab f H kvs t) {x : Str} (hx : x ∉ keys t) : valV kvs (Sum.inr x : Key) = none := by
  induction h with
  | nil => rfl
  | @cons y us a kvs t h1 _ ih =>
    rw [valV_cons]
    have e : ¬ y = x := fun q => hx (by rw [q]; simp [keys])
    have e2 : ¬ (Sum.inr y : Key) = Sum.inr x := fun q => e (Sum.inr.inj q)
    rw [if_neg e2]
    exact ih fun q => hx (by unfold keys at q ⊢; exact List.mem_cons_of_mem _ q)
theorem Tab.keys_eq {f : List Str → HO} {H : Hp} {kvs : List (Key × V)} {t : Tb} (h : Tab f H kvs t) : kvs.map (·.1) = (keys t).map Sum.inr := by
  induction h with
  | nil => rfl
  | cons _ _ ih =>
    rw [List.map_cons, ih]
    rfl
theorem merge2 (v1 v2 : V) : mergeK [] [((Sum.inr (Str.ofString "error") : Key), v1), ((Sum.inr (Str.ofString "vacant") : Key), v2)] = [((Sum.inr (Str.ofString "error") : Key), v1), ((Sum.inr (Str.ofString "vacant") : Key), v2)] := by
  show putK (putK [] (Sum.inr (Str.ofString "error") : Key) v1) (Sum.inr (Str.ofString "vacant") : Key) v2 = _
  rw [putK_new v1 rfl, putK_new v2 (by
    rw [List.nil_append, valV_cons, if_neg (by decide +kernel)]
    rfl)]
  rfl
def fL (us : List Str) : HO := .lst (us.map V.str)
def spUppers : Sp := fun vs H Q _ => ∃ (l : Addr) (ts : List Addr) (rs : List Row), vs = [.ref l] ∧ H l = some (.lst (ts.map V.ref)) ∧ RowsAt H ts rs ∧ Good rs ∧ rs.length ≤ 31 ∧
  ∀ (d : Addr) (kvs : List (Key × V)) (H' : Hp), H d = none → H' d = some (.dK kvs) → Tab fL H' kvs (ups rs) → Same H H' → Q (.ref d) H'
theorem cut1' (x : Str) (bs : List Str) : cutV ((x :: bs).map V.str) (some 1) none = bs.map V.str := by
  unfold cutV
  rw [show (1 : Int) = ((1 : Nat) : Int) from rfl, HT.sIx_nat, HT.sIx_none, List.length_map]
  have : min 1 (x :: bs).length = 1 := by simp
  rw [this]
  show (bs.map V.str).take ((x :: bs).length - 1) = bs.map V.str
  rw [List.take_of_length_le (by simp)]
theorem lineL_take {t : Tb} {m bs : List Str} {j : Nat} {b : Str} (h : bs[j]? = some b) : lineL t m (bs.take (j + 1)) = mergeU (lineL t m (bs.take j)) (look t b) := by
  unfold lineL
  rw [List.take_add_one, h]
  simp
/-- how long a line may be -/
theorem line_len {t : Tb} (T : TOk t) {x : Str} {bs : List Str} (h : ∀ b ∈ bs, b ∈ keys t) : (lineL t [x] bs).length ≤ (keys t).length + 1 := by
  obtain ⟨h1, h2, _⟩ := lineL_ok T (x := x) bs [x] h (by simp) (by simp)
  have := h1.length_le_of_subset (l₂ := x :: keys t) fun u hu => by
    rcases h2 u hu with rfl | q
    · simp
    · exact List.mem_cons_of_mem _ q
  simpa using this
end K2
end
section
set_option Elab.async false
set_option maxRecDepth 100000
set_option linter.all false
namespace K2
open PySem PySem.Spec PyProof.Rows L2
section
variable {p : Program} {w : World} {A : Around} {Z : Result → Shared → Prop} {it : Addr} {f g : List Addr} {Gs : Array GenState → Array GenState → Prop} {N : Nat} {Yv : Nat → Value → Prop} {Sv : Nat → Shared → Prop}
/-- a set that takes in unlike texts, one after the other -/
theorem set_takes (Wk : WalksS p w A.in1 it f g Gs N Yv Sv) {a : Addr} (af : a ∉ f) {xs : List Str} (lx : xs.length = N) (un : xs.Nodup) (few : N ≤ 1000) (val : ∀ j v, Yv j v → ∃ t, v = .str (xs.getD j Str.empty) t) :
    ∀ (m j : Nat) (s : Shared), N - j = m → j ≤ N → Sv j s → s.heap.SetOf (strKind p w) a (fun y => decide (y ∈ xs.take j)) j → (∀ z, Moved (a :: g) Gs s z → z.heap.SetOf (strKind p w) a (fun y => decide (y ∈ xs)) N → Z (.ok (.ret .none)) z) →
      codeAny (model p w) A (.builtin "set.update.loop" ⟨[.ref a, .ref it], []⟩) Z s := by
  have ag : a ∉ g := fun q => af (Wk.sub _ q)
  have up : ∀ b ∈ g, b ∈ a :: g := fun b q => List.mem_cons_of_mem _ q
  have here : ∀ {s z : Shared} {T : Str → Bool} {c : Nat}, Moved g Gs s z → s.heap.SetOf (strKind p w) a T c → z.heap.SetOf (strKind p w) a T c := fun mv q => by
    obtain ⟨o, es, ep, tb, ho, rest⟩ := q
    exact ⟨o, es, ep, tb, mv.heap a _ ag ho, rest⟩
  intro m
  induction m with
  | zero =>
    intro j s hm hj st se fin
    obtain rfl : j = N := by omega
    refine codeAny_builtin F.entry_set_update_loop (by
      rw [Around.under_plainId F.plain_set_update_loop _]
      refine wpAny_bind (Wk.done s _ _ st fun z mv => wpAny_pure (fin z (mv.mono up) ?_))
      rw [← lx, List.take_length] at se
      rw [← lx]
      exact here mv se)
  | succ m ih =>
    intro j s hm hj st se fin
    have jl : j < N := by omega
    have xj : xs[j]? = some (xs.getD j Str.empty) := by
      rw [List.getD_eq_getElem?_getD, List.getElem?_eq_getElem (by omega)]
      rfl
    generalize xs.getD j Str.empty = x at xj
    refine codeAny_builtin F.entry_set_update_loop (by
      rw [Around.under_plainId F.plain_set_update_loop _]
      refine wpAny_bind (Wk.item j s _ _ jl st fun v z hv st2 mv => ?_)
      obtain ⟨t, ev⟩ := val j v hv
      have ex : xs.getD j Str.empty = x := by rw [List.getD_eq_getElem?_getD, xj]; rfl
      rw [ex] at ev
      subst ev
      have fresh : decide (x ∈ xs.take j) = false := by
        rw [decide_eq_false_iff_not]
        intro q
        obtain ⟨i, hi⟩ := List.getElem?_of_mem q
        rw [List.getElem?_take] at hi
        split at hi
        · rename_i lt
          have := (List.getElem?_inj (i := i) (by omega) un).mp (hi.trans xj.symm)
          omega
        · cases hi
      have se' := here mv se
      refine wpAny_bind (wpAny_holding (by
        unfold setAdd
        refine wpAny_holding (wpAny_bind ((strKind p w).pyHash (k := x) (strKind_is _ _ _ _) (wpAny_setAddHashed_of (knd := strKind p w) (s := { z with toks := z.toks + 1 }) (strKind_is _ _ _ _) rfl se' (by unfold scanBound; omega) fun h2 sb se2 => ?_)))
        have se3 : h2.SetOf (strKind p w) a (fun y => decide (y ∈ xs.take (j + 1))) (j + 1) := SetOf_congr se2 (fun y => by
          rw [List.take_add_one, xj]
          simp [List.mem_append]) (by rw [fresh]; rfl)
        refine wpAny_pure ⟨plainId_quiet F.plain_set_update_loop _, ih (j + 1) _ (by omega) jl (Wk.frame _ z _ _ st2 (Nat.le_succ _) fun b hb o e => ?_) se3 fun y mv2 se4 => fin y (Moved.trans Wk.gtrans ((mv.mono up).then_heap (Nat.le_succ _) fun b o hb e => ?_) mv2) se4⟩
        · rw [sb.2 b fun q : b = a => af (q ▸ hb)]; exact e
        · rw [sb.2 b fun q : b = a => hb (q ▸ List.mem_cons_self)]; exact e)))
end
section
variable {p : Program} {w : World} {A : Around} {E : Value → Shared → Prop} {s : Shared}
def emptySet (b : Bool) : Obj := { cls := .type "set", dict := none, data := .set #[] 0 (.fresh 0 0 b) }
set_option maxHeartbeats 3200000 in
/-- set(t) of a tuple of unlike texts has as many items -/
theorem set_of_tup {l : Addr} {its : Array Value} {xs : List Str} {Q : Value → Shared → Prop} (hh : A.handled = none) (hl : s.heap.IsTuple l its) (hi : StrsAre its.toList xs) (un : xs.Nodup) (few : xs.length ≤ 1000)
    (fin : ∀ (h' : Heap) (tk : Nat), h'.SetOf (strKind p w) s.heap.objs.size (fun y => decide (y ∈ xs)) xs.length → (∀ b o, b < s.heap.objs.size → s.heap.get? b = some o → h'.get? b = some o) → Q (.ref s.heap.objs.size) { s with heap := h', toks := tk }) :
    wpAny (model p w) A (call (.type "set") [.ref l]) Q E s := by
  have sz : its.size = xs.length := by rw [← Array.length_toList, StrsAre.len_eq hi]
  obtain ⟨c, tl, hmro⟩ := F.called_set.mro
  have m1 := F.called_set.made
  have m2 := F.called_set.sub
  refine wpAny_call (codeAny_of_tree (wpAny_pure ⟨Code.quiet_builtin _ (by decide +kernel), codeAny_builtin F.entry_type_call (by
    rw [Around.under_plain (weight_type_call_type "set" [.ref l] []) rfl]
    have m3 := F.called_set.notType
    have m4 := F.called_set.canCreate
    have m5 := F.typeCall_set_1 (.ref l)
    repeat (any_goals (first | assumption | wp_step))
    refine codeAny_mono (code_set_new_1 (.ref l) (E := E) (Q₁ := fun v z => ∃ b : Bool, v = .ref s.heap.objs.size ∧ z = { s with heap := s.heap.push (emptySet b) }) fun b => ⟨b, rfl, rfl⟩) fun r z hr => ?_
    cases r with
    | error e => exact hr
    | ok fl =>
      cases fl with
      | next => exact hr.elim
      | brk => exact hr.elim
      | cont => exact hr.elim
      | ret v =>
        obtain ⟨led, rfl, rfl⟩ := hr
        have hS : (s.heap.push (emptySet led)).get? s.heap.objs.size = some (emptySet led) := Heap.get?_push_size _ rfl
        have hT : Shared.TypeIs { s with heap := s.heap.push (emptySet led) } (.ref s.heap.objs.size) "set" := ⟨_, hS, rfl⟩
        have n1 := F.called_set.init.lookup
        have n2 := F.called_set.init.bind (.ref s.heap.objs.size)
        repeat (any_goals (first | assumption | wp_step))
        refine codeAny_mono (codeAny_call_builtin (R := wants (fun r z => r = .none ∧ ∃ h' tk, z = { s with heap := h', toks := tk } ∧ h'.SetOf (strKind p w) s.heap.objs.size (fun y => decide (y ∈ xs)) xs.length ∧ (∀ b o, b < s.heap.objs.size → s.heap.get? b = some o → h'.get? b = some o)) E) F.called_set.init.plain F.entry_set_init (check_set_init_1 hT ?_)) fun r2 z2 hr2 => ?_
        · obtain ⟨⟨tc, td, tdata, tsl⟩, ho, hc, tn, hd⟩ := hl
          simp only at hc hd
          subst hc hd
          have ho2 : (s.heap.push (emptySet led)).get? l = some { cls := .type "tuple", dict := td, data := .seq its tn, slots := tsl } := Heap.get?_push_of_some _ ho
          have q1 := F.sub_tuple_set
          have q2 := F.sub_tuple_frozenset
          have q3 : (Value.type "tuple" == Value.type "dict") = false := by decide
          have tup : (s.heap.push (emptySet led)).IsTuple l its := ⟨_, ho2, rfl, tn, rfl⟩
          have lS : l < s.heap.objs.size := Heap.lt_size ho
          have pz : (s.heap.push (emptySet led)).objs.size = s.heap.objs.size + 1 := Heap.size_push ..
          unfold Builtin.«set.__init__» noKeywords Builtin.Frozenset.updateFrom
          generalize hPI : pyIter = PI
          unfold emptySet at *
          wp_walk
          subst hPI
          refine wpAny_pyIter_tuple tup (wpAny_bind (wpAny_runValue ?_))
          have hn3 : A.in1.in1.in1.handled = none := by simp [hh]
          have vals : ∀ (j : Nat) (v : Value), its[j]? = some v → ∃ t, v = .str (xs.getD j Str.empty) t := fun j v hv => SS.strs_at hi j v (by rw [Array.getElem?_toList]; exact hv)
          refine set_takes ((Walks.tuple hn3 _ l (by rw [Heap.size_push]; exact Nat.ne_of_lt (Nat.lt_succ_of_lt lS)) its).toS) (a := s.heap.objs.size) (by
            simp only [List.mem_cons, List.not_mem_nil, or_false, not_or]
            exact ⟨by rw [Heap.size_push]; exact (Nat.succ_ne_self _).symm, Nat.ne_of_gt lS⟩) sz.symm un (by omega) vals (its.size - 0) 0 _ (by omega) (Nat.zero_le _) ⟨⟨_, Heap.get?_push_size _ rfl, rfl, rfl⟩, tup.push _⟩ ?_ ?_
          · exact SetOf_congr ((setObjOf_fresh (knd := strKind p w) led).setOf (Heap.get?_push_of_some _ hS) (by decide)) (fun _ => by simp) rfl
          · rintro ⟨h', g', d', tk', os'⟩ mv se
            obtain rfl : g' = s.gens := mv.gens
            obtain rfl : d' = s.drawn := mv.drawn
            obtain rfl : os' = s.os := mv.os
            refine wpAny_pure (wpAny_pure ⟨rfl, h', tk', rfl, by rw [← sz]; exact se, fun b o hb e => mv.heap b o ?_ (Heap.get?_push_of_some _ (Heap.get?_push_of_some _ e))⟩)
            simp only [List.mem_cons, List.not_mem_nil, or_false, not_or]
            exact ⟨Nat.ne_of_lt hb, by rw [Heap.size_push]; exact Nat.ne_of_lt (Nat.lt_succ_of_lt hb)⟩
        · cases r2 with
          | error e => exact hr2
          | ok f2 =>
            cases f2 with
            | next => exact hr2.elim
            | brk => exact hr2.elim
            | cont => exact hr2.elim
            | ret v =>
              obtain ⟨rfl, h', tk, rfl, se, kp⟩ := hr2
              repeat (any_goals (first | assumption | wp_step))
              exact fin _ _ se kp)⟩))
end
end K2
end
section
set_option Elab.async false
set_option maxRecDepth 100000
set_option linter.all false
namespace K2
open PySem L2
abbrev sIsW : Stmt := top 7
abbrev sAreW : Stmt := top 8
/-- the module's constants -/
structure Gb (K : PySem.W.Frag) (mg : Str → Option Value) (aR : Addr) (t1 t2 : Tok) : Prop where
  long : mg "LONGEST" = some (.int 8 t1)
  most : mg "MOST_ROWS" = some (.int 30 t2)
  res : mg "RESERVED" = some (.ref aR)
  resT : ∀ H : Hp, SqT K H aR (resd.map V.str)
theorem uni : ∀ k, k < 26 → Unicode.isAlpha (97 + k) = true ∧ Unicode.isLower (97 + k) = true ∧ Unicode.isUpper (97 + k) = false ∧ Unicode.isTitle (97 + k) = false := by decide +kernel
theorem uni' {c : Nat} (h : 97 ≤ c ∧ c ≤ 122) : Unicode.isAlpha c = true ∧ Unicode.isLower c = true ∧ Unicode.isUpper c = false ∧ Unicode.isTitle c = false := by
  have := uni (c - 97) (by omega)
  rw [show 97 + (c - 97) = c by omega] at this
  exact this
theorem vw_ascii {x : Str} (h : VW x) : Txt.isascii x = true := by
  unfold Txt.isascii
  rw [← Array.all_toList, List.all_eq_true]
  intro c hc
  have := h.low c hc
  simp
  omega
theorem vw_alpha {x : Str} (h : VW x) : Txt.isalpha x = true := by
  unfold Txt.isalpha
  have hl : x.length > 0 := by
    rw [len_codes]
    exact List.length_pos_iff.mpr h.ne
  rw [← Array.all_toList, decide_eq_true hl, Bool.true_and, List.all_eq_true]
  intro c hc
  exact (uni' (h.low c hc)).1
theorem vw_lower {x : Str} (h : VW x) : Txt.islower x = true := by
  unfold Txt.islower
  rw [← Array.any_toList, ← Array.any_toList, Bool.and_eq_true]
  refine ⟨?_, ?_⟩
  · rw [List.any_eq_true]
    obtain ⟨c, r, e⟩ := List.exists_cons_of_ne_nil h.ne
    have hc : c ∈ x.cps.toList := by
      show c ∈ codes x
      rw [e]
      simp
    exact ⟨c, hc, (uni' (h.low c hc)).2.1⟩
  · rw [Bool.not_eq_true', List.any_eq_false]
    intro c hc
    have := uni' (h.low c hc)
    rw [this.2.2.1, this.2.2.2]
    decide
def spIsW : Sp := fun vs H Q _ => ∃ x : Str, vs = [.str x] ∧ VW x ∧ Q (.bl true) H
def spAreW : Sp := fun vs H Q _ => ∃ (t : Addr) (xs : List Str), vs = [.ref t] ∧ H t = some (.tup (xs.map V.str)) ∧ (∀ x ∈ xs, VW x) ∧ xs.length ≤ 100 ∧ ∀ H', Same H H' → Q (.bl true) H'
abbrev nAreW : List Str := ["xs", "x"]
section
variable {P : Program} {w : World} {K : PySem.W.Frag} {mg : Str → Option Value} {base : Heap}
theorem scIsW : FnScope ["x"] ["x"] (defScope sIsW) := ⟨rfl, rfl, rfl, by decide +kernel, rfl, by decide +kernel, by decide +kernel⟩
theorem ok_isw {f aR : Addr} {t1 t2 : Tok} {fd : FuncData} (F : Fun K "is_word" "is_word" sIsW f fd) (T : Bi mg) (G : Gb K mg aR t1 t2) : FnOk P w K mg base CX0 1 f fd ["x"] spIsW := by
  refine F.ok scIsW (fun vs H Q E h => ?_) (fun cdv A outer s H vs Q E hr h => ?_)
  · obtain ⟨x, rfl, _⟩ := h
    rfl
  · obtain ⟨x, rfl, hx, k⟩ := h
    refine ⟨_, (pss_cons (ps_if (PW.pt (pw_or (pt_not (pt_val (pe_callB call_isi (by rfl) T.isinstance (by decide +kernel) (pa_cons (pv 0) (pa_cons (pe_bltn (v := .ty "str") (by rfl) T.str (by decide +kernel) rfl) pa_nil))))) (pw_or1 (pt_cmpR op_gt (pe_callB call_len_str (by rfl) T.len PySem.boot_len (pa_cons (pv 0) pa_nil)) (pe_glob (v := .int 8) rfl G.long ⟨_, rfl⟩) (nomark _)))))
      (pss_one (ps_ret pe_bl))
      pss_nil)
      (pss_one (ps_ret (pe_and (pe_m0 PySem.F.slot_str_isascii PySem.F.type_str_isascii mt_isascii (pv 0)) (pe_and (pe_m0 PySem.F.slot_str_isalpha PySem.F.type_str_isalpha mt_isalpha (pv 0)) (pe_and (pe_m0 PySem.F.slot_str_islower PySem.F.type_str_islower mt_islower (pv 0)) (pe_one (pe_cmpR op_notIn_seq (pv 0) (pe_glob (v := .ref aR) rfl G.res rfl) rfl)))))))), ?_⟩
    have hl : x.length ≤ 8 := by rw [len_codes]; exact hx.le
    refine ⟨_, rfl, _, _, _, _, true, rfl, .ty _, .base (.str _), kit_ty (by decide +kernel), _, rfl, ?_⟩
    refine ⟨_, rfl, _, rfl, Nat.le_trans hl (by decide), _, _, rfl, rfl, _, rfl, ite2 (fun h8 => ?_) (fun _ => ?_)⟩
    · have := of_decide_eq_true h8
      omega
    refine ⟨_, rfl, ⟨_, rfl⟩, _, rfl, rfl, trivial, _, rfl, ?_⟩
    rw [vw_ascii hx]
    refine iteT ⟨_, rfl, ⟨_, rfl⟩, _, rfl, rfl, trivial, _, rfl, ?_⟩
    rw [vw_alpha hx]
    refine iteT ⟨_, rfl, ⟨_, rfl⟩, _, rfl, rfl, trivial, _, rfl, ?_⟩
    rw [vw_lower hx]
    refine iteT ⟨_, rfl, aR, _, rfl, .inr (G.resT H), rfl, flat_strs _, ?_⟩
    rw [if_pos rfl, inV_strs, decide_eq_false hx.nr]
    exact k
theorem scAreW : FnScope nAreW ["xs"] (defScope sAreW) := ⟨rfl, rfl, rfl, by decide +kernel, rfl, by decide +kernel, by decide +kernel⟩
theorem ok_arew {f fI : Addr} {fd fdI : FuncData} (F : Fun K "are_words" "are_words" sAreW f fd) (T : Bi mg) (IW : Df K mg "is_word" sIsW fI fdI ["x"]) (GI : FnOk P w K mg base CX0 1 fI fdI ["x"] spIsW) : FnOk P w K mg base CX0 2 f fd ["xs"] spAreW := by
  refine F.ok scAreW (fun vs H Q E h => ?_) (fun cdv A outer s H vs Q E hr h => ?_)
  · obtain ⟨t, xs, rfl, _⟩ := h
    rfl
  · obtain ⟨t, xs, rfl, ht, hx, hl, k⟩ := h
    have hr0 : Room 1 _ := hr
    refine ⟨_, (pss_one (ps_ret (pe_callB (cr_all rfl) (by rfl) T.all (by decide +kernel) (pa_cons (pe_lc (own := [("x", 1)]) (g := gName 1) (tt := tYes) rfl scAreW.nd (pi_tup (pv 0)) (blkOk_by (N := nAreW) (sc := defScope sAreW) (by decide +kernel)) (fun _ _ _ _ _ => pg_name (i := 1) scAreW.nd rfl (Or.inl rfl)) (fun _ _ _ _ _ => pts_nil) (fun _ _ _ _ _ => pe_call GI hr0 (by rfl) IW.m IW.F.kp IW.b .nil pass0 (pa_cons (pv 1) pa_nil))) pa_nil)))), ?_⟩
    refine ⟨_, rfl, t, rfl, ⟨_, SqT.of ht⟩, fun D hD => ?_⟩
    refine lc_tup (K := K) (a := t) (xs := xs.map V.str) (fun i Hc => Hc D = some (.lst ((List.replicate i true).map V.bl)) ∧ Same H Hc) ?_ ?_ ?_ ?_
    · exact ⟨upd_same, (Same.refl H).put hD⟩
    · rintro i Hc _ ⟨_, sm⟩
      exact SqT.of (sm t _ ht)
    · rintro i y Hc hy ⟨h1, sm⟩
      obtain ⟨x, hxm, rfl⟩ := List.mem_map.mp (List.mem_of_getElem? hy)
      have hil : i < xs.length := by
        have := (List.getElem?_eq_some_iff.mp hy).1
        rwa [List.length_map] at this
      refine ⟨rfl, _, rfl, x, rfl, hx x hxm, _, h1, ?_, ?_, sm.put hD⟩
      · rw [List.length_map, List.length_replicate]; show _ < 16777216; omega
      · rw [upd_same, List.replicate_succ', List.map_append]
        rfl
    · rintro Hc ⟨h1, sm⟩
      refine ⟨D, _, rfl, SqL.of h1, ?_⟩
      have : (List.replicate (xs.map V.str).length true).all id = true := by simp
      rw [this]
      exact k Hc sm
end
end K2
end
section
set_option Elab.async false
set_option maxRecDepth 100000
set_option linter.all false
namespace K2
open PySem L2
abbrev sAreD : Stmt := top 9
abbrev sFault : Stmt := top 13
abbrev sLine : Stmt := top 14
abbrev nLine : List Str := ["row", "lines", "line", "base", "name"]
abbrev nFault : List Str := ["row", "k", "lines", "bases", "base"]
/-- a dict of True for each name -/
def dkeys (us : List Str) : List (Key × V) := us.map fun u => ((Sum.inr u : Key), V.bl true)
def fD (us : List Str) : HO := .dK (dkeys us)
theorem dkeys_val (us : List Str) (x : Str) : valV (dkeys us) (Sum.inr x : Key) = if x ∈ us then some (.bl true) else none := by
  induction us with
  | nil => rfl
  | cons u us ih =>
    show valV (((Sum.inr u : Key), V.bl true) :: dkeys us) (Sum.inr x : Key) = _
    rw [valV_cons, ih]
    by_cases e : u = x
    · subst e; simp
    · have e2 : ¬ (Sum.inr u : Key) = Sum.inr x := fun q => e (Sum.inr.inj q)
      have e3 : ¬ x = u := fun q => e q.symm
      simp [e2, e3]
theorem dkeys_put (us : List Str) (x : Str) : putK (dkeys us) (Sum.inr x : Key) (.bl true) = dkeys (insK us x) := by
  unfold insK
  by_cases h : x ∈ us
  · rw [if_pos h]
    unfold putK
    rw [valV_any, dkeys_val, if_pos h]
    show (dkeys us).map _ = dkeys us
    unfold dkeys
    rw [List.map_map]
    apply List.map_congr_left
    intro u _
    show (if (Sum.inr u : Key) = Sum.inr x then _ else _) = _
    split <;> rfl
  · rw [if_neg h, putK_new _ (by rw [dkeys_val, if_neg h])]
    unfold dkeys
    rw [List.map_append]
    rfl
theorem dkeys_len (us : List Str) : (dkeys us).length = us.length := by simp [dkeys]
theorem insK_foldl_len (us m : List Str) : (us.foldl insK m).length ≤ m.length + us.length := by
  induction us generalizing m with
  | nil => simp
  | cons u us ih =>
    rw [List.foldl_cons]
    have := ih (insK m u)
    have h2 : (insK m u).length ≤ m.length + 1 := by
      unfold insK
      split
      · omega
      · simp
    rw [List.length_cons]
    omega
theorem merge1 (x : Str) (v : V) : mergeK [] [((Sum.inr x : Key), v)] = [((Sum.inr x : Key), v)] := by
  show putK [] (Sum.inr x : Key) v = _
  rw [putK_new v rfl]
  rfl
def spAreD : Sp := fun vs H Q _ => ∃ (t : Addr) (xs : List Str), vs = [.ref t] ∧ H t = some (.tup (xs.map V.str)) ∧ xs.Nodup ∧ xs.length ≤ 1000 ∧ Q (.bl true) H
def spLine : Sp := fun vs H Q _ => ∃ (t d : Addr) (r : Row) (kvs : List (Key × V)) (tb : Tb), vs = [.ref t, .ref d] ∧ H t = some (rowO r) ∧ H d = some (.dK kvs) ∧ Tab fD H kvs tb ∧ TOk tb ∧ RowOk (keys tb) r ∧ tb.length ≤ 40 ∧
  ∀ (m : Addr) (H' : Hp), H m = none → H' m = some (fD (lineOf tb r)) → Same H H' → Q (.ref m) H'
def spFault : Sp := fun vs H Q _ => ∃ (t d : Addr) (k : Nat) (r : Row) (kvs : List (Key × V)) (tb : Tb), vs = [.ref t, .int k, .ref d] ∧ k < 30 ∧ H t = some (rowO r) ∧ H d = some (.dK kvs) ∧ Tab fD H kvs tb ∧ TOk tb ∧ RowOk (keys tb) r ∧ (∀ x ∈ r.2, VW x) ∧ tb.length ≤ 40 ∧
  ∀ (H' : Hp), Same H H' → Q .non H'
section
variable {P : Program} {w : World} {K : PySem.W.Frag} {mg : Str → Option Value} {base : Heap}
theorem scLine : FnScope nLine ["row", "lines"] (defScope sLine) := ⟨rfl, rfl, rfl, by decide +kernel, rfl, by decide +kernel, by decide +kernel⟩
theorem scFault : FnScope nFault ["row", "k", "lines"] (defScope sFault) := ⟨rfl, rfl, rfl, by decide +kernel, rfl, by decide +kernel, by decide +kernel⟩
theorem ok_line {f : Addr} {fd : FuncData} (F : Fun K "_line" "_line" sLine f fd) : FnOk P w K mg base CX0 1 f fd ["row", "lines"] spLine := by
  refine F.ok scLine (fun vs H Q E h => ?_) (fun cdv A outer s H vs Q E hr h => ?_)
  · obtain ⟨t, d, r, kvs, tb, rfl, _⟩ := h
    rfl
  · obtain ⟨t, d, ⟨x, bs⟩, kvs, tb, rfl, ht, hd, TB, TO, RO, h40, k⟩ := h
    have hu := hu_of hr
    refine ⟨_, (pss_cons (ps_set (i := 2) scLine.nd rfl (Or.inl rfl) (pe_disp (pps_cons (pe_ix ix_tup (pv 0) pe_int (fun _ _ => rfl)) pe_bl pps_nil) (by rfl) (by rfl) (fun z => by cases z) (by decide)))
      (pss_cons (ps_for PassesOwn.never rfl (pi_tup (pe_slice sl_tup2 (pv 0) (po_some pe_int) po_none)) (pg_name (i := 3) scLine.nd rfl (Or.inl rfl))
      (pss_one (ps_lock (ps_for PassesOwn.never rfl (pi_keys (pe_dget hu (pv 1) (pv 3) (fun _ _ => rfl))) (pg_name (i := 4) scLine.nd rfl (Or.inl rfl))
        (pss_one (ps_dput hu (pv 2) (pv 4) pe_bl rfl))))))
      (pss_one (ps_ret (pv 2))))), ?_⟩
    have htl : tb.length = (keys tb).length := by simp [keys]
    have hll := fun j => line_len TO (x := x) (bs := bs.take j) fun b hb => RO.sub b (List.mem_of_mem_take hb)
    unfold rowO at ht
    refine fun m hm => ⟨_, rfl, t, _, _, _, rfl, rfl, SqT.of (by rw [upd_ne (ne_of_none ht hm)]; exact ht), atI_nat (j := 0) rfl, upd_same, [((Sum.inr x : Key), V.bl true)], rfl, (by show 1 ≤ 15; decide), ?_⟩
    rw [merge1, upd_upd]
    have sm : Same H (upd H m (.dK [((Sum.inr x : Key), V.bl true)])) := (Same.refl H).put hm
    have hm1 : (upd H m (.dK [((Sum.inr x : Key), V.bl true)])) m = some (fD [x]) := upd_same
    generalize upd H m (.dK [((Sum.inr x : Key), V.bl true)]) = H1 at sm hm1 ⊢
    refine ⟨_, rfl, _, rfl, t, _, rfl, sm t _ ht, fun rp H2 s2 hrp => ?_⟩
    rw [cut1'] at hrp
    refine ⟨rp, rfl, ⟨_, SqT.of hrp⟩, for_tup (K := K) (a := rp) (xs := bs.map V.str)
      (fun j σ Hd => ∃ (v3 v4 : Option V), σ = [some (.ref t), some (.ref d), some (.ref m), v3, v4] ∧ Same H Hd ∧ Hd rp = some (.tup (bs.map V.str)) ∧ Hd m = some (fD (lineL tb [x] (bs.take j)))) ?_ ?_ ?_ ?_⟩
    · exact ⟨_, _, rfl, sm.trans s2, hrp, s2 m _ hm1⟩
    · rintro j σ Hd _ ⟨v3, v4, rfl, _, hr2, _⟩
      exact SqT.of hr2
    · rintro j y σ Hd hj ⟨v3, v4, rfl, sd, hr2, hmd⟩
      have hjl : j < bs.length := by
        have := (List.getElem?_eq_some_iff.mp hj).1
        rwa [List.length_map] at this
      have hbj : bs[j]? = some bs[j] := List.getElem?_eq_getElem hjl
      rw [List.getElem?_map, hbj] at hj
      cases hj
      obtain ⟨u, hu1, hu2⟩ := TB.val (RO.sub bs[j] (List.getElem_mem hjl))
      have q := TO.line (RO.sub bs[j] (List.getElem_mem hjl))
      have husl : (look tb bs[j]).length ≤ (keys tb).length := q.1.length_le_of_subset q.2.2.2
      have hun := q.1
      have hsucc := lineL_take (t := tb) (m := [x]) hbj
      have hl1 := hll j
      have hmu : u ≠ m := ne_of_none hu2 hm
      have hud := sd u _ hu2
      have hdd := sd d _ hd
      generalize look tb bs[j] = us at hu2 hud hsucc husl hun
      generalize lineL tb [x] (bs.take j) = mine at hmd hsucc hl1
      -- for name in lines[base]: the dict at u is locked
      refine ⟨u, fD us, hud, True.intro, fun od => ?_⟩
      have hmf : m ≠ u := hmu.symm
      have hget : ∀ hq : Hp, (∀ b, b ≠ u → b ≠ m → hq b = Hd b) → (d = u → hq u = some (.frz od (fD us))) → True := fun _ _ _ => trivial
      have hD2 : DGet (upd Hd u (.frz od (fD us))) d (.str bs[j]) (some (.ref u)) := by
        by_cases e : d = u
        · subst e
          rw [hdd] at hud
          have e2 := Option.some.inj hud
          refine .inl ⟨kvs, Sum.inr bs[j], .inr ⟨od, ?_⟩, rfl, hu1.symm⟩
          rw [upd_same, e2]
        · exact dget_s (by rw [upd_ne e]; exact hdd) hu1
      refine ⟨_, rfl, _, rfl, d, _, rfl, hD2, u, od, rfl, .inl ⟨dkeys us, upd_same, for_it walk_keys
        (fun i σ Hx => ∃ v4 : Option V, σ = [some (.ref t), some (.ref d), some (.ref m), some (.str bs[j]), v4] ∧ Hx u = some (.frz od (fD us)) ∧ Hx m = some (fD ((us.take i).foldl insK mine)) ∧ ∀ b o, Hd b = some o → b ≠ m → b ≠ u → Hx b = some o) ?_ ?_ ?_ ?_⟩⟩
      · exact ⟨_, rfl, upd_same, by rw [upd_ne hmf]; exact hmd, fun b o hb _ h2 => by rw [upd_ne h2]; exact hb⟩
      · rintro i σ Hx _ ⟨v4, rfl, hx, _, _⟩
        exact hx
      · rintro i y σ Hx Hy hi ⟨v4, rfl, hx, hmx, kx⟩ ⟨rfl, kk, vv, hkv, rfl⟩
        rw [dkeys_len] at hi
        have hui : us[i]? = some us[i] := List.getElem?_eq_getElem hi
        unfold dkeys at hkv
        rw [List.getElem?_map, hui] at hkv
        cases hkv
        have hfl := insK_foldl_len (us.take i) mine
        rw [List.length_take] at hfl
        refine ⟨_, rfl, _, rfl, m, _, rfl, DPut.k (k := Sum.inr us[i]) hmx ?_, ?_⟩
        · rw [dkeys_len]; show _ < 16777216; omega
        · refine ⟨_, rfl, by rw [upd_ne hmu]; exact hx, ?_, fun b o hb h1 h2 => by rw [upd_ne h1]; exact kx b o hb h1 h2⟩
          have et : us.take (i + 1) = us.take i ++ [us[i]] := by rw [List.take_add_one, hui]; rfl
          rw [upd_same, dkeys_put, et, List.foldl_append]
          rfl
      · rintro σ Hx ⟨v4, rfl, hx, hmx, kx⟩
        rw [dkeys_len, List.take_length, foldl_insK _ _ hun] at hmx
        have back : ∀ b o, Hd b = some o → b ≠ m → (upd Hx u (fD us)) b = some o := fun b o hb h1 => by
          by_cases e : b = u
          · subst e
            rw [hud] at hb
            rw [upd_same]
            exact hb
          · rw [upd_ne e]
            exact kx b o hb h1 e
        refine ⟨hx, _, _, rfl, fun b o hb => back b o (sd b o hb) (ne_of_none hb hm), back rp _ hr2 ?_, ?_⟩
        · exact ne_of hr2 hmd (by unfold fD; intro z; cases z)
        · rw [upd_ne hmf, hmx, hsucc]
    · rintro σ Hd ⟨v3, v4, rfl, sd, hr2, hmd⟩
      rw [List.length_map, List.take_length] at hmd
      exact ⟨_, rfl, k m Hd hm hmd sd⟩
end
end K2
end
section
set_option Elab.async false
set_option maxRecDepth 100000
set_option linter.all false
namespace K2
open PySem PySem.Spec PyProof.Rows L2
def tLenSetT (ta : TE) : TE := fun σ H Q => ta σ H fun x H1 => ∃ (l : Addr) (xs : List Str), x = .ref l ∧ H1 l = some (.tup (xs.map V.str)) ∧ xs.Nodup ∧ xs.length ≤ 1000 ∧ Q (.int (xs.length : Nat)) H1
section
variable {X : Cx}
/-- len(set(t)), t a tuple of unlike texts -/
theorem pe_lenSetT {a : Expr} {ta : TE} {p1 p2 p3 pos : Pos} (h1 : Gl X "len") (h2 : X.mg "len" = none) (h3 : Gl X "set") (h4 : X.mg "set" = none) (ha : PE X a ta) (hc : X.calm = true := by rfl)
    (na : starEach [a] X.env = (false, eval a X.env) :: starEach [] X.env := by rfl) : PE X (.Call (.Name "len" p1) [.Call (.Name "set" p2) [a] [] p3] [] pos) (tLenSetT ta) := by
  refine ⟨fun pins s σ H Q I h => Call_ (ld_blt I h1 h2 boot_len (callWith_builtin1 (args_cons (Call_ (ld_blt I h3 h4 boot_set (callWith_type1 (args_cons (thn (ha.run pins s σ H _ I h) fun v s1 ⟨x, H1, I1, r1, q1⟩ => args_nil ?_) na) na rfl))) rfl) rfl rfl))⟩
  obtain ⟨l, xs, rfl, ht, un, few, q⟩ := q1
  cases r1
  obtain ⟨its, r, pl, _⟩ := I1.tuple (SqT.of ht)
  refine set_of_tup (I1.ok.hd hc) pl (by simpa using strsAre_of r) un few fun h' tk hS hk => args_nil ?_
  obtain ⟨o, es, ep, t, ho, hex, hd, _, _, _, hf, hn⟩ := hS
  have I2 : Inv X pins σ H1 { s1 with heap := h', toks := tk } := I1.kept fun b o e => hk b o (Heap.lt_size e) e
  exact call_len_set ho hex hd hf (by rw [hn]; omega) ⟨.int xs.length, H1, I2.tok _, ⟨_, by rw [hn]⟩, q⟩
end
section
variable {P : Program} {w : World} {K : PySem.W.Frag} {mg : Str → Option Value} {base : Heap}
theorem scAreD : FnScope ["words"] ["words"] (defScope sAreD) := ⟨rfl, rfl, rfl, by decide +kernel, rfl, by decide +kernel, by decide +kernel⟩
theorem ok_ared {f : Addr} {fd : FuncData} (F : Fun K "are_different" "are_different" sAreD f fd) (T : Bi mg) : FnOk P w K mg base CX0 1 f fd ["words"] spAreD := by
  refine F.ok scAreD (fun vs H Q E h => ?_) (fun cdv A outer s H vs Q E hr h => ?_)
  · obtain ⟨t, xs, rfl, _⟩ := h
    rfl
  · obtain ⟨t, xs, rfl, ht, un, few, k⟩ := h
    refine ⟨_, pss_one (ps_ret (pe_cmpR op_eq (pe_lenSetT (by rfl) T.len (by rfl) T.set (pv 0)) (pe_callB call_len_seq (by rfl) T.len PySem.boot_len (pa_cons (pv 0) pa_nil)) (nomark _))), ?_⟩
    refine ⟨_, rfl, t, xs, rfl, ht, un, few, _, rfl, t, _, rfl, .inr (SqT.of ht), rfl, ?_⟩
    rw [List.length_map, decide_eq_true rfl]
    exact k
end
end K2
end
section
set_option Elab.async false
set_option maxRecDepth 100000
set_option linter.all false
namespace K2
open PySem L2
section
variable {P : Program} {w : World} {K : PySem.W.Frag} {mg : Str → Option Value} {base : Heap}
theorem ok_fault {f fA fF aR : Addr} {fd fdA fdF : FuncData} {t1 t2 : Tok} (F : Fun K "_fault" "_fault" sFault f fd) (T : Bi mg) (G : Gb K mg aR t1 t2) (AW : Df K mg "are_words" sAreW fA fdA ["xs"]) (GA : FnOk P w K mg base CX0 2 fA fdA ["xs"] spAreW)
    (AD : Df K mg "are_different" sAreD fF fdF ["words"]) (GF : FnOk P w K mg base CX0 1 fF fdF ["words"] spAreD) : FnOk P w K mg base CX0 3 f fd ["row", "k", "lines"] spFault := by
  refine F.ok scFault (fun vs H Q E h => ?_) (fun cdv A outer s H vs Q E hr h => ?_)
  · obtain ⟨t, d, k, r, kvs, tb, rfl, _⟩ := h
    rfl
  · obtain ⟨t, d, n, ⟨x, bs⟩, kvs, tb, rfl, hn, ht, hd, TB, TO, RO, hvw, h40, k⟩ := h
    have hu := hu_of hr
    have hr2 : Room 2 _ := hr
    have hr1 : Room 1 _ := hr.mono (by decide)
    refine ⟨_, (pss_cons (ps_if (pt_cmpR op_eq (pv 1) (pe_glob (v := .int 30) rfl G.most ⟨_, rfl⟩) (nomark _))
      (pss_one (ps_ret pe_str))
      pss_nil)
      (pss_cons (ps_if (PW.pt (pw_or (pt_not (pt_val (pe_callB call_isi (by rfl) T.isinstance (by decide +kernel) (pa_cons (pv 0) (pa_cons (pe_bltn (v := .ty "tuple") (by rfl) T.tuple (by decide +kernel) rfl) pa_nil))))) (pw_or (pt_cmpR op_lt (pe_callB call_len_seq (by rfl) T.len PySem.boot_len (pa_cons (pv 0) pa_nil)) pe_int (nomark _)) (pw_or1 (pt_not (pt_val (pe_call GA hr2 (by rfl) AW.m AW.F.kp AW.b .nil pass0 (pa_cons (pv 0) pa_nil))))))))
      (pss_one (ps_ret pe_str))
      pss_nil)
      (pss_cons (ps_if (pt_cmp (pc_din hu (pe_ix ix_tup (pv 0) pe_int (fun _ _ => rfl)) (pv 2)))
      (pss_one (ps_ret pe_str))
      pss_nil)
      (pss_cons (ps_set (i := 3) scFault.nd rfl (Or.inl rfl) (pe_slice sl_tup2 (pv 0) (po_some pe_int) po_none))
      (pss_cons (ps_if (PW.pt (pw_or (pt_not (pt_val (pe_callB (cr_all rfl) (by rfl) T.all (by decide +kernel) (pa_cons (pe_lc (own := [("base", 4)]) (g := gName 4) (tt := tYes) rfl scFault.nd (pi_tup (pv 3)) (blkOk_by (N := nFault) (sc := defScope sFault) (by decide +kernel)) (fun _ _ _ _ _ => pg_name (i := 4) scFault.nd rfl (Or.inl rfl)) (fun _ _ _ _ _ => pts_nil) (fun _ _ _ _ _ => pe_cmp (pc_din hu (pv 4) (pv 2)) rfl)) pa_nil)))) (pw_or1 (pt_not (pt_val (pe_call GF hr1 (by rfl) AD.m AD.F.kp AD.b .nil pass0 (pa_cons (pv 3) pa_nil)))))))
      (pss_one (ps_ret pe_str))
      pss_nil)
      (pss_one (ps_ret pe_non))))))), ?_⟩
    have htl : tb.length = (keys tb).length := by simp [keys]
    have hbl : bs.length ≤ 40 := by
      have q : bs.length ≤ (keys tb).length := RO.nd.length_le_of_subset (RO.sub)
      omega
    have hb0 : 1 ≤ bs.length := List.length_pos_iff.mpr RO.ne
    unfold rowO at ht
    refine ⟨_, rfl, rfl, _, rfl, ite2 (fun h0 => ?_) (fun _ => ?_)⟩
    · have e : (n : Int) = 30 := V.int.inj (of_decide_eq_true h0)
      omega
    refine ⟨_, rfl, _, _, _, _, true, rfl, .ty _, .base (.tup ht), kit_ty (by decide +kernel), _, rfl, ?_⟩
    refine ⟨_, rfl, t, _, rfl, .inr (SqT.of ht), _, _, rfl, rfl, _, rfl, ite2 (fun h0 => ?_) (fun _ => ?_)⟩
    · have := of_decide_eq_true h0
      rw [List.length_map, List.length_cons] at this
      have h1 : 1 ≤ (x, bs).snd.length := hb0
      omega
    refine ⟨_, rfl, t, _, rfl, ht, ?_, ?_, fun H1 s1 => ⟨_, rfl, ?_⟩⟩
    · intro y hy
      rcases List.mem_cons.mp hy with rfl | hy
      · exact RO.vw
      · exact hvw y hy
    · show bs.length + 1 ≤ 100
      omega
    refine ⟨_, rfl, t, _, _, _, rfl, rfl, SqT.of (s1 t _ ht), atI_nat (j := 0) rfl, _, rfl, d, _, rfl, DGet.k (k := Sum.inr x) (s1 d _ hd), _, rfl, ?_⟩
    rw [TB.none RO.new]
    refine ⟨_, rfl, _, rfl, t, _, rfl, s1 t _ ht, fun bp H2 s2 hbp => ?_⟩
    rw [cut1'] at hbp
    have s12 := s1.trans s2
    refine ⟨_, rfl, bp, rfl, ⟨_, SqT.of hbp⟩, fun D hD => ?_⟩
    refine lc_tup (K := K) (a := bp) (xs := bs.map V.str) (fun i Hc => Hc D = some (.lst ((List.replicate i true).map V.bl)) ∧ Same H2 Hc) ?_ ?_ ?_ ?_
    · exact ⟨upd_same, (Same.refl H2).put hD⟩
    · rintro i Hc _ ⟨_, sm⟩
      exact SqT.of (sm bp _ hbp)
    · rintro i y Hc hy ⟨h1, sm⟩
      obtain ⟨b, hb, rfl⟩ := List.mem_map.mp (List.mem_of_getElem? hy)
      have hil : i < bs.length := by
        have := (List.getElem?_eq_some_iff.mp hy).1
        rwa [List.length_map] at this
      obtain ⟨u, hu1, _⟩ := TB.val (RO.sub b hb)
      refine ⟨rfl, _, rfl, _, rfl, d, _, rfl, DGet.k (k := Sum.inr b) (sm d _ (s12 d _ hd)), _, h1, ?_, ?_, sm.put hD⟩
      · rw [List.length_map, List.length_replicate]; show _ < 16777216; omega
      · rw [upd_same, List.replicate_succ', List.map_append, hu1]
        rfl
    · rintro Hc ⟨h1, sm⟩
      refine ⟨D, _, rfl, SqL.of h1, _, rfl, ?_⟩
      have e : (List.replicate (bs.map V.str).length true).all id = true := by simp
      rw [e]
      refine ⟨_, rfl, bp, bs, rfl, sm bp _ hbp, RO.nd, by omega, _, rfl, ?_⟩
      exact k Hc (s12.trans sm)
end
end K2
end
section
set_option Elab.async false
set_option maxRecDepth 100000
set_option linter.all false
namespace K2
open PySem PySem.Spec PyProof.Rows L2
/-! enumerate(t) of a tuple -/
def enumO (i : Addr) : Obj := { cls := .type "enumerate", data := .fields #[.none, .bool false, .ref i, rawInt 0, .none, .none] }
set_option maxHeartbeats 1000000 in
theorem enum_made {v : Value} {o : Obj} {B : Heap → Prop} (b : Begins v o B) :
    Meets (Builtin.«enumerate.__new__» ⟨[.type "enumerate", v], []⟩) (fun _ R s => B s.heap ∧ R (.ok (.ret (.ref (s.heap.push o).objs.size))) { s with heap := (s.heap.push o).push (enumO s.heap.objs.size) }) :=
  .of_wp fun prog w A R ⟨hp, g, d, tk, os⟩ ⟨h1, h⟩ => by
    have q0 := sub_enumerate
    have q1 : ∀ {A' : Around} {E : Value → Shared → Prop} {Q : Value → Shared → Prop}, Q (.ref hp.objs.size) ⟨hp.push o, g, d, tk, os⟩ → wpAny (model prog w) A' (pyIter v) Q E ⟨hp, g, d, tk, os⟩ := fun q => b.iter prog w _ _ ⟨hp, g, d, tk, os⟩ _ h1 q
    wp_walk using q1
    refine wpAny_stack_any fun st => wpAny_pure ?_
    split
    · rename_i c _ _ _ _ _
      cases (c == Value.type "enumerate") <;> (wp_walk using q1; exact ⟨_, rfl, h⟩)
    · wp_walk using q1
      exact ⟨_, rfl, h⟩
section
variable {prog : Program} {w : World} {A : Around} {E : Value → Shared → Prop} {s : Shared}
theorem enum_call {v : Value} {o : Obj} {B : Heap → Prop} {Q : Value → Shared → Prop} (b : Begins v o B) (h1 : B s.heap)
    (h : ∀ h', IsEnum h' (s.heap.objs.size + 1) s.heap.objs.size 0 .none → h'.get? s.heap.objs.size = some o → (∀ a u, s.heap.get? a = some u → h'.get? a = some u) → Q (.ref (s.heap.objs.size + 1)) { s with heap := h' }) :
    wpAny (model prog w) A (call (.type "enumerate") [v]) Q E s := by
  refine callType_new F.called_enumerate (by decide) (F.typeCall_enumerate_1 _) (F.newCall_enumerate_1 _) (fun obj => F.args_object_init_2 obj _) F.entry_enumerate_new (enum_made b) ⟨h1, ?_⟩
  have sz : (s.heap.push o).objs.size = s.heap.objs.size + 1 := Heap.size_push ..
  have at1 := Heap.get?_push_size (s.heap.push o) (o := enumO s.heap.objs.size) rfl
  rw [sz] at at1
  show _ ∧ _
  rw [sz]
  exact ⟨⟨_, at1, rfl⟩, h _ at1 (Heap.get?_push_of_some _ (Heap.get?_push_size _ b.free)) fun a u x => Heap.get?_push_of_some _ (Heap.get?_push_of_some _ x)⟩
end
/-- the items of the tuple at a, each in a new pair with its number -/
def IteT (a : Addr) (xs : List V) : It :=
  ⟨fun i H => H a = some (.tup xs) ∧ i < xs.length, fun i H v H' => ∃ T x, v = .ref T ∧ H T = none ∧ H' = upd H T (.tup [.int (i : Nat), x]) ∧ xs[i]? = some x, fun i H => H a = some (.tup xs) ∧ i = xs.length⟩
def tnE (e it t : Addr) (i : Nat) (h : Heap) : Prop := (∃ old, IsEnum h e it (0 + ((i : Nat) : Int)) old) ∧ h.IsTupleIter it t i ∧ e ≠ it ∧ t ≠ it ∧ e ≠ t
theorem turn_enumT {P : Program} {w : World} {K : PySem.W.Frag} {elts : List Expr} {kk : Nat} {tpos : Pos} (xs : List V) (t e it : Addr) : Turn P w K (.Tuple elts kk tpos) (IteT t xs) [e, it] e (tnE e it t) where
  mem := by simp
  obj := fun i h ⟨⟨old, he⟩, ⟨o, ho, hc, hd⟩, _⟩ b hb => by
    rcases List.mem_cons.mp hb with z | z
    · subst z; exact ⟨_, he, fun v q => nomatch q⟩
    · rw [List.mem_singleton.mp z]; exact ⟨o, ho, fun v q => by rw [hd] at q; cases q⟩
  keep := fun i h h' ⟨⟨old, he⟩, hi, n1, n2, n3⟩ k => ⟨⟨old, k e (by simp) _ he⟩, hi.at fun o q => k it (by simp) o q, n1, n2, n3⟩
  item := by
    rintro X rfl rfl rfl hc i pins s σ H E I hf ⟨he, hi, n1, n2, n3⟩ ⟨ha, hlt⟩
    obtain ⟨its, rv, pl, _⟩ := I.tuple (SqT.of ha)
    have sz : its.toArray.size = xs.length := by rw [List.size_toArray, rv.length]
    have W := WalksT.enumFrom (prog := X.prog) (w := X.w) (A := X.A) 0 (Draws.tuple (A := X.A.in1) (by simp [I.ok.hd hc]) it t n2 its.toArray) e n1 (by simp [n1, n3]) (by simp)
    refine W.item i s _ _ (by rw [sz]; exact hlt) ⟨he, hi, pl⟩ fun T vals h' tk ⟨tt, x, hx, ev⟩ hT hTup mid fr => ⟨_, rfl, W.go elts kk tpos i T _ _ _ mid fun h'' ⟨he2, hi2, _⟩ fr2 => ?_⟩
    have hx2 : its[i]? = some x := by simpa using hx
    obtain ⟨y, hy, ry⟩ : ∃ y, xs[i]? = some y ∧ RelV y x := by
      have q : xs[i]? = some xs[i] := List.getElem?_eq_getElem hlt
      obtain ⟨u, hu, ru⟩ := rv.get q
      rw [hx2] at hu
      cases hu
      exact ⟨_, q, ru⟩
    have hTw := W.apart i T _ mid
    have hTf : H T = none := I.hok.fresh hT
    obtain ⟨o2, ho2, hc2, nn, hd2⟩ := hTup
    have new : ObjOk X.prog X.w (upd H T (.tup [.int (i : Nat), y])) h'' T (.tup [.int (i : Nat), y]) :=
      ⟨by show 2 ≤ sizeLine; decide, [.int (i : Nat) tt, x], .cons ⟨_, rfl⟩ (.cons ry .nil), ⟨o2, fr2 T o2 hTw ho2, hc2, nn, by rw [hd2, ev, Int.zero_add]⟩⟩
    refine ⟨.ref T, _, I.turnedNew (ch := [e, it]) (fun b ob hb q => fr2 b ob hb (fr b ob hb q)) hf hT new, rfl, ⟨T, y, rfl, hTf, rfl, hy⟩, ⟨he2, hi2, n1, n2, n3⟩, fun b hb => ?_⟩
    rw [upd_ne fun z : b = T => hTw (z ▸ hb)]
    exact (hf b hb).1
  done := by
    rintro X rfl rfl rfl hc i pins s σ H E I hf ⟨he, hi, n1, n2, n3⟩ ⟨ha, hle⟩
    obtain ⟨its, rv, pl, _⟩ := I.tuple (SqT.of ha)
    have sz : its.toArray.size = i := by rw [List.size_toArray, ← rv.length, hle]
    have W := WalksT.enumFrom (prog := X.prog) (w := X.w) (A := X.A) 0 (Draws.tuple (A := X.A.in1) (by simp [I.ok.hd hc]) it t n2 its.toArray) e n1 (by simp [n1, n3]) (by simp)
    rw [sz] at W
    exact W.done s _ _ ⟨he, hi, pl⟩ fun h' tk fr => ⟨rfl, I.turnedL (ch := [e, it]) fr hf⟩
  self := fun A i s Q E ⟨⟨_, he⟩, _⟩ h => wpAny_pyIter_enum he h
def iEnumT (ta : TA) : TI := fun σ H R => ta σ H fun vs H1 => ∃ a xs, vs = [.ref a] ∧ H1 a = some (.tup xs) ∧ R (IteT a xs) H1
theorem pi_enumT {X : Cx} {e : Expr} {ta : TA} {p pos tpos : Pos} {elts : List Expr} {kk : Nat} (hg : Gl X "enumerate") (hm : X.mg "enumerate" = none) (ha : PA X [e] ta) (hs : starEach [e] X.env = [(false, eval e X.env)] := by rfl) :
    PI X (.Tuple elts kk tpos) (.Call (.Name "enumerate" p) [e] [] pos) (iEnumT ta) := by
  refine ⟨fun pins s σ H R I h => Call_ (ld_blt I hg hm boot_enumerate (callWith_type1 (thn (ha.run pos pins s σ H _ I h) fun us s1 ⟨vs, H1, I1, r1, q1⟩ => ?_) hs rfl))⟩
  obtain ⟨a, xs, rfl, ht, q⟩ := q1
  cases r1 with
  | cons r rr =>
    cases rr
    cases r
    obtain ⟨its, rv, pl, _⟩ := I1.tuple (SqT.of ht)
    have al : a < s1.heap.objs.size := by obtain ⟨_, z, _⟩ := pl; exact Heap.lt_size z
    refine enum_call (begins_tuple a its.toArray) pl fun h' he hit hk => wpAny_pyIter_enum he ⟨s1.heap.objs.size + 1, [s1.heap.objs.size + 1, s1.heap.objs.size], _, _, H1, rfl, I1.kept (t' := s1.toks) hk, turn_enumT xs a (s1.heap.objs.size + 1) s1.heap.objs.size,
      ⟨⟨.none, he⟩, ⟨_, hit, rfl, rfl⟩, Nat.succ_ne_self _, Nat.ne_of_lt al, Nat.ne_of_gt (Nat.lt_succ_of_lt al)⟩, fun b hb => ?_, q⟩
    have le : s1.heap.objs.size ≤ b := by
      rcases List.mem_cons.mp hb with z | z
      · rw [z]; exact Nat.le_succ _
      · rw [List.mem_singleton.mp z]; exact Nat.le_refl _
    exact I1.fpOk le (I1.hok.fresh le)
theorem walk_enumT (a : Addr) (xs : List V) : Walk (IteT a xs) xs.length (fun H => H a = some (.tup xs)) (fun i H v H' => ∃ T x, v = .ref T ∧ H T = none ∧ H' = upd H T (.tup [.int (i : Nat), x]) ∧ xs[i]? = some x) :=
  ⟨fun i H hi h => ⟨h, hi⟩, fun H h => ⟨h, rfl⟩, fun i H x H' _ _ y => y⟩
end K2
end
section
set_option Elab.async false
set_option maxRecDepth 100000
set_option linter.all false
namespace K2
open PySem L2
abbrev sInit : Stmt := inClass (top 12) 0
abbrev sMade : Stmt := inClass (top 12) 2
abbrev sWithin : Stmt := inClass (top 12) 6
abbrev nInit : List Str := ["self", "rows", "lines", "k", "row", "reason"]
def flds (r n l : Addr) : List (Str × V) := putF "_lines" (.ref l) (putF "names" (.ref n) (putF "rows" (.ref r) []))
theorem k1_ : ¬ (("rows" : Str) = "names") := by decide +kernel
theorem k2_ : ¬ (("rows" : Str) = "_lines") := by decide +kernel
theorem k3_ : ¬ (("names" : Str) = "_lines") := by decide +kernel
theorem flds_lines (r n l : Addr) : (flds r n l).lookup ("_lines" : Str) = some (.ref l) := by
  unfold flds
  rw [lookup_putF, if_pos rfl]
theorem flds_no (r n l : Addr) {m : Str} (h1 : ¬ m = "_lines") (h2 : ¬ m = "names") (h3 : ¬ m = "rows") : (flds r n l).lookup m = none := by
  unfold flds
  rw [lookup_putF, if_neg h1, lookup_putF, if_neg h2, lookup_putF, if_neg h3]
  rfl
theorem merge2' (v1 v2 : V) : mergeK [] [((Sum.inr (Str.ofString "vacant") : Key), v1), ((Sum.inr (Str.ofString "error") : Key), v2)] = [((Sum.inr (Str.ofString "vacant") : Key), v1), ((Sum.inr (Str.ofString "error") : Key), v2)] := by
  show putK (putK [] (Sum.inr (Str.ofString "vacant") : Key) v1) (Sum.inr (Str.ofString "error") : Key) v2 = _
  rw [putK_new v1 rfl, putK_new v2 (by
    rw [List.nil_append, valV_cons, if_neg (by decide +kernel)]
    rfl)]
  rfl
/-- Classes stand at p, and know what is within what -/
def ClsAt (C : Addr) (H : Hp) (p : Addr) (tb : Tb) : Prop := ∃ (dx r n l : Addr) (kvs : List (Key × V)), H p = some (.ins C dx (flds r n l)) ∧ H l = some (.dK kvs) ∧ Tab fD H kvs tb
/-- Classes stand at p, made of these rows -/
def ClsW (C : Addr) (H : Hp) (p : Addr) (rs : List Row) : Prop := ∃ (dx r n l : Addr) (kvs : List (Key × V)) (ts : List Addr), H p = some (.ins C dx (flds r n l)) ∧ H l = some (.dK kvs) ∧ Tab fD H kvs (ups rs) ∧ H n = some (.tup ((keys (ups rs)).map V.str)) ∧ H r = some (.tup (ts.map V.ref)) ∧ RowsAt H ts rs
theorem ClsW.at {C p : Addr} {H : Hp} {rs : List Row} (h : ClsW C H p rs) : ClsAt C H p (ups rs) := by
  obtain ⟨dx, r, n, l, kvs, ts, h1, h2, h3, _⟩ := h
  exact ⟨dx, r, n, l, kvs, h1, h2, h3⟩
theorem keys_vals {f : List Str → HO} {H : Hp} {kvs : List (Key × V)} {t : Tb} (TB : Tab f H kvs t) : kvs.map (fun e => kV e.1) = (keys t).map V.str := by
  have := congrArg (List.map kV) TB.keys_eq
  rw [List.map_map, List.map_map] at this
  exact this
theorem flds_names (r n l : Addr) : (flds r n l).lookup ("names" : Str) = some (.ref n) := by
  unfold flds
  rw [lookup_putF, if_neg k3_, lookup_putF, if_pos rfl]
theorem flds_rows (r n l : Addr) : (flds r n l).lookup ("rows" : Str) = some (.ref r) := by
  unfold flds
  rw [lookup_putF, if_neg k2_, lookup_putF, if_neg k1_, lookup_putF, if_pos rfl]
theorem Tab.monoM {f : List Str → HO} {H H' : Hp} {kvs : List (Key × V)} {t : Tb} (h : Tab f H kvs t) (k : ∀ a us, (∃ y, (y, V.ref a) ∈ kvs) → H a = some (f us) → H' a = some (f us)) : Tab f H' kvs t := by
  induction h with
  | nil => exact .nil
  | cons h1 _ ih => exact .cons (k _ _ ⟨_, List.mem_cons_self⟩ h1) (ih fun a us ⟨y, hy⟩ => k a us ⟨y, List.mem_cons_of_mem _ hy⟩)
structure Txt (K : PySem.W.Frag) (mg : Str → Option Value) (C : Addr) : Prop where
  cl : Cls K C
  nR : NoAttr K C "rows"
  nN : NoAttr K C "names"
  nL : NoAttr K C "_lines"
  mgC : mg "Classes" = some (.ref C)
def spInit (C : Addr) : Sp := fun vs H Q _ => ∃ (p dx rt : Addr) (ts : List Addr) (rs : List Row), vs = [.ref p, .ref rt] ∧ H p = some (.ins C dx []) ∧ H rt = some (.tup (ts.map V.ref)) ∧ RowsAt H ts rs ∧ Good rs ∧ rs.length ≤ 30 ∧
  ∀ (H' : Hp), ClsW C H' p rs → (∀ b o, H b = some o → b ≠ p → H' b = some o) → Q .non H'
theorem init_bind (kV doc pm : Value) (an : Option Addr) (cdv ct : Value) : ∀ us rest : List Value, us.length = ["self"].length → bindArgs (PySem.W.fnOf "__init__" "Classes.__init__" (defArgs sInit) (defBody sInit) (defScope sInit) .none kV doc pm an cdv ct) ⟨us ++ rest, []⟩ = (newTuple rest >>= fun t => pure (([("self" : Str)]).zip us ++ [(("rows" : Str), t)])) :=
  StX.bind_star1 (B := fun l => bindArgs (PySem.W.fnOf "__init__" "Classes.__init__" (defArgs sInit) (defBody sInit) (defScope sInit) .none kV doc pm an cdv ct) ⟨l, []⟩) (fun a => rfl) (fun a r rs => rfl)
section
variable {P : Program} {w : World} {K : PySem.W.Frag} {mg : Str → Option Value} {base : Heap}
theorem scInit : FnScope nInit ["self", "rows"] (defScope sInit) := ⟨rfl, rfl, rfl, by decide +kernel, rfl, by decide +kernel, by decide +kernel⟩
theorem ok_init {f C fF fL : Addr} {fd fdF fdL : FuncData} (F : Fun K "__init__" "Classes.__init__" sInit f fd) (X : Txt K mg C) (T : Bi mg) (FA : Df K mg "_fault" sFault fF fdF ["row", "k", "lines"]) (GF : FnOk P w K mg base CX0 3 fF fdF ["row", "k", "lines"] spFault)
    (LI : Df K mg "_line" sLine fL fdL ["row", "lines"]) (GL : FnOk P w K mg base CX0 1 fL fdL ["row", "lines"] spLine) :
    FnR P w K mg base CX0 4 f (fun vs H Q E => ∃ ws rest, vs = ws ++ rest ∧ ws.length = 1 ∧ rest.length ≤ sizeLine ∧ ∀ p, H p = none → spInit C (ws ++ [V.ref p]) (upd H p (.tup rest)) Q E) := by
  obtain ⟨oc, od, kV, doc, pm, an, cdv, ct, osl, rfl, lk, hcd⟩ := F.ex
  refine StX.fn_star (ps := ["self"]) (pv := "rows") lk hcd scInit StX.cxUp_none (init_bind kV doc pm an cdv ct) fun A outer s H vs Q E hr h => ?_
  obtain ⟨p, dx, rt, ts, rs, rfl, hp, ht, R, g, h30, k⟩ := h
  have hr2 : Room 3 _ := hr
  have hr0 : Room 1 _ := hr.mono (by decide)
  have hu := hu_of hr
  suffices hs : ∃ t, PSs (cxOf CX0 P w K mg base nInit "Classes.__init__" (defScope sInit) f cdv A outer s H E).nox (defBody sInit) t ∧ t { nx := fun _ H' => Q .non H', rt := Q } (start nInit [V.ref p, V.ref rt]) H by
    obtain ⟨t, h1, h2⟩ := hs
    exact ⟨t, h1.nox, h2⟩
  refine ⟨_, (pss_cons (ps_set (i := 2) scInit.nd rfl (Or.inl rfl) (pe_disp (pps_cons pe_str (pe_disp (pps_cons pe_str pe_bl pps_nil) (by rfl) (by rfl) (fun z => by cases z) (by decide)) (pps_cons pe_str (pe_disp (pps_cons pe_str pe_bl (pps_cons pe_str pe_bl pps_nil)) (by rfl) (by rfl) (fun z => by cases z) (by decide)) pps_nil)) (by rfl) (by rfl) (fun z => by cases z) (by decide)))
      (pss_cons (ps_for PassesOwn.never rfl (pi_enumT (by rfl) T.enumerate (pa_cons (pv 1) pa_nil)) (pg_tup rfl (pgs_cons (pg_name (i := 3) scInit.nd rfl (Or.inl rfl)) (pgs_cons (pg_name (i := 4) scInit.nd rfl (Or.inl rfl)) pgs_nil)))
      (pss_cons (ps_set (i := 5) scInit.nd rfl (Or.inl rfl) (pe_call GF hr2 (by rfl) FA.m FA.F.kp FA.b .nil pass0 (pa_cons (pv 4) (pa_cons (pv 3) (pa_cons (pv 2) pa_nil)))))
        (pss_cons (ps_if (pt_cmpR op_notN (pv 5) pe_non (nomark _))
        (pss_one (ps_never))
        pss_nil)
        (pss_one (ps_dput hu (pv 2) (pe_ix ix_tup (pv 4) pe_int (fun _ _ => rfl)) (pe_call GL hr0 (by rfl) LI.m LI.F.kp LI.b .nil pass0 (pa_cons (pv 4) (pa_cons (pv 2) pa_nil))) rfl)))))
      (pss_cons (ps_fld (pv 0) (pv 1) rfl)
      (pss_cons (ps_fld (pv 0) (pe_callTy call_tuple_of (by rfl) T.tuple (by decide +kernel) (pa_cons (pe_callTy (call_list_dK rfl) (by rfl) T.list (by decide +kernel) (pa_cons (pv 2) pa_nil)) pa_nil)) rfl)
      (pss_one (ps_fld (pv 0) (pv 2) rfl)))))), ?_⟩
  refine fun d hd d1 hd1 => ⟨upd_same, [((Sum.inr (Str.ofString "error") : Key), V.bl true)], rfl, (by show 1 ≤ 15; decide), fun d2 hd2 => ?_⟩
  rw [merge1, upd_upd] at hd2 ⊢
  refine ⟨upd_same, [((Sum.inr (Str.ofString "vacant") : Key), V.bl true), ((Sum.inr (Str.ofString "error") : Key), V.bl true)], rfl, (by show 2 ≤ 15; decide), ?_⟩
  rw [merge2', upd_upd]
  have n01 : d ≠ d1 := fun e => by rw [← e, upd_same] at hd1; cases hd1
  have n12 : d1 ≠ d2 := fun e => by rw [← e, upd_same] at hd2; cases hd2
  have n02 : d ≠ d2 := fun e => by rw [← e, upd_ne n01, upd_same] at hd2; cases hd2
  have hd1H : H d1 = none := by rw [upd_ne n01.symm] at hd1; exact hd1
  have hd2H : H d2 = none := by rw [upd_ne n12.symm, upd_ne n02.symm] at hd2; exact hd2
  refine ⟨by rw [upd_ne n02, upd_ne n01, upd_same], [((Sum.inr (Str.ofString "error") : Key), V.ref d1), ((Sum.inr (Str.ofString "vacant") : Key), V.ref d2)], rfl, (by show 2 ≤ 15; decide), ?_⟩
  rw [merge2]
  have facts : ∀ H0, H0 = upd (upd (upd (upd H d (.dK [])) d1 (.dK [((Sum.inr (Str.ofString "error") : Key), V.bl true)])) d2 (.dK [((Sum.inr (Str.ofString "vacant") : Key), V.bl true), ((Sum.inr (Str.ofString "error") : Key), V.bl true)])) d
      (.dK [((Sum.inr (Str.ofString "error") : Key), V.ref d1), ((Sum.inr (Str.ofString "vacant") : Key), V.ref d2)]) → Same H H0 ∧ H0 d = some (.dK [((Sum.inr (Str.ofString "error") : Key), V.ref d1), ((Sum.inr (Str.ofString "vacant") : Key), V.ref d2)]) ∧
      Tab fD H0 [((Sum.inr (Str.ofString "error") : Key), V.ref d1), ((Sum.inr (Str.ofString "vacant") : Key), V.ref d2)] t0 := fun H0 e => by
    subst e
    refine ⟨((((Same.refl H).put hd).put hd1H).put hd2H).put hd, upd_same, .cons ?_ (.cons ?_ .nil)⟩
    · rw [upd_ne n01.symm, upd_ne n12, upd_same]
      rfl
    · rw [upd_ne n02.symm, upd_same]
      rfl
  generalize hH0 : upd (upd (upd (upd H d (.dK [])) d1 (.dK [((Sum.inr (Str.ofString "error") : Key), V.bl true)])) d2 (.dK [((Sum.inr (Str.ofString "vacant") : Key), V.bl true), ((Sum.inr (Str.ofString "error") : Key), V.bl true)])) d
      (.dK [((Sum.inr (Str.ofString "error") : Key), V.ref d1), ((Sum.inr (Str.ofString "vacant") : Key), V.ref d2)]) = H0
  obtain ⟨sm0, hd0, T0⟩ := facts H0 hH0.symm
  have tl : (ts.map V.ref).length = rs.length := by rw [List.length_map, R.1]
  refine ⟨_, rfl, rt, _, rfl, sm0 rt _ ht, for_it (walk_enumT rt (ts.map V.ref)) (fun i σ Hc => ∃ (kvs : List (Key × V)) (v3 v4 v5 : Option V), σ = [some (.ref p), some (.ref rt), some (.ref d), v3, v4, v5] ∧ Hc d = some (.dK kvs) ∧ Tab fD Hc kvs (ups (rs.take i)) ∧ Same H Hc ∧ ∀ y a, (y, V.ref a) ∈ kvs → a ≠ d) ?_ ?_ ?_ ?_⟩
  · refine ⟨_, _, _, _, rfl, hd0, T0, sm0, fun y a hya => ?_⟩
    simp only [List.mem_cons, List.not_mem_nil, or_false, Prod.mk.injEq, V.ref.injEq] at hya
    rcases hya with ⟨_, rfl⟩ | ⟨_, rfl⟩
    · exact n01.symm
    · exact n02.symm
  · rintro i σ Hc _ ⟨kvs, v3, v4, v5, rfl, _, _, sm, _⟩
    exact sm rt _ ht
  · rintro i y σ Hc Hy hi ⟨kvs, v3, v4, v5, rfl, hD, TB, sm, hav⟩ ⟨T9, x, rfl, hT9, rfl, hx⟩
    rw [tl] at hi
    have hti : ts[i]? = some (ts[i]'(by rw [R.1]; exact hi)) := List.getElem?_eq_getElem _
    rw [List.getElem?_map, hti] at hx
    generalize ts[i]'(by rw [R.1]; exact hi) = t at hti hx
    cases hx
    have hri : rs[i]? = some rs[i] := List.getElem?_eq_getElem hi
    have htH := sm t _ (R.2 i t _ hti hri)
    have RO := g i _ hri
    have TO := tok_ups g i (Nat.le_of_lt hi)
    have hks := keys_ups_take rs i
    have hus := ups_succ hri
    have hkl := knownAt_len (Nat.le_of_lt hi)
    have hvw := g.vw_known i
    generalize rs[i] = r at hri htH RO hus
    rw [← hks] at RO hkl hvw
    generalize ups (rs.take i) = tb at TB TO hks hus RO hkl hvw
    have htl2 : tb.length = (keys tb).length := by simp [keys]
    have s9 : Same Hc (upd Hc T9 (.tup [V.int (i : Nat), V.ref t])) := (Same.refl Hc).put hT9
    refine ⟨T9, _, rfl, SqT.of upd_same, rfl, _, _, rfl, _, _, rfl, rfl, ?_⟩
    have TB9 : ∀ {H2 : Hp}, Same Hc H2 → Tab fD H2 kvs tb := fun s => TB.mono fun a us e => s a _ e
    refine ⟨_, rfl, _, rfl, _, rfl, t, d, i, r, kvs, tb, rfl, by omega, s9 t _ htH, s9 d _ hD, TB9 s9, TO, RO, fun x hx => hvw x (RO.sub x hx), by omega, fun H2 s2 => ?_⟩
    refine ⟨_, rfl, rfl, _, rfl, iteNS rfl ?_⟩
    have s92 := s9.trans s2
    refine ⟨_, rfl, _, rfl, t, d, r, kvs, tb, rfl, s92 t _ htH, s92 d _ hD, TB9 s92, TO, RO, by omega, fun m H3 hmf hm s3 => ?_⟩
    have s93 := s92.trans s3
    have hD3 := s93 d _ hD
    have ht3 := s93 t _ htH
    obtain ⟨x, bs⟩ := r
    unfold rowO at ht3
    refine ⟨_, rfl, _, rfl, t, _, _, _, rfl, rfl, SqT.of ht3, atI_nat (j := 0) rfl, d, _, rfl, DPut.k (k := Sum.inr x) hD3 ?_, ?_⟩
    · rw [TB.len, htl2]; show _ < 16777216; omega
    rw [putK_new _ (TB.none RO.new)]
    have hmd : m ≠ d := (ne_of_none (s92 d _ hD) hmf).symm
    refine ⟨_, _, _, _, rfl, upd_same, ?_, (sm.trans s93).put hd, fun y a hya => ?_⟩
    · rw [hus]
      refine Tab.snoc ((TB9 s93).monoM fun a us ⟨y, hy⟩ e => by rw [upd_ne (hav y a hy)]; exact e) ?_
      rw [upd_ne hmd]
      exact hm
    · rcases List.mem_append.mp hya with hya | hya
      · exact hav y a hya
      · simp only [List.mem_cons, List.not_mem_nil, or_false, Prod.mk.injEq, V.ref.injEq] at hya
        rw [hya.2]
        exact hmd
  · rintro σ Hc ⟨kvs, v3, v4, v5, rfl, hD, TB, sm, hav⟩
    rw [tl, List.take_length] at TB
    have hpc := sm p _ hp
    have hdp : d ≠ p := ne_of hD hpc (by intro z; cases z)
    refine ⟨_, rfl, _, rfl, p, C, dx, _, rfl, hpc, X.cl, X.nR, (by show 0 < 1000; decide), ?_⟩
    refine ⟨_, rfl, d, kvs, rfl, by rw [upd_ne hdp]; exact hD, fun q1 hq1 => ?_⟩
    refine ⟨q1, _, rfl, .inl ⟨SqL.of upd_same, fun q2 hq2 => ?_⟩⟩
    have np1 : p ≠ q1 := ne_of_none upd_same hq1
    have np2 : p ≠ q2 := ne_of_none ((upd_ne np1).trans upd_same) hq2
    have back : ∀ b o, Hc b = some o → b ≠ p → ∀ o1 o2 o3 o4, (upd (upd (upd (upd Hc p o1) q1 o2) q2 o3) p o4) b = some o := fun b o e n o1 o2 o3 o4 => by
      have e1 : (upd Hc p (.ins C dx (putF "rows" (V.ref rt) []))) b = some o := by rw [upd_ne n]; exact e
      have n1 : b ≠ q1 := ne_of_none e1 hq1
      have n2 : b ≠ q2 := by
        refine ne_of_none (o := o) ?_ hq2
        rw [upd_ne n1]
        exact e1
      rw [upd_ne n, upd_ne n2, upd_ne n1, upd_ne n]
      exact e
    refine ⟨_, rfl, p, C, dx, _, rfl, by rw [upd_ne np2, upd_ne np1, upd_same], X.cl, X.nN, (by show 1 < 1000; decide), ?_⟩
    refine ⟨_, rfl, _, rfl, p, C, dx, _, rfl, upd_same, X.cl, X.nL, ?_, ?_⟩
    · show (if ("rows" : Str) = "names" then _ else _ : List (Str × V)).length < 1000
      rw [if_neg k1_]
      show 2 < 1000
      decide
    rw [upd_upd]
    have nr : ∀ (a : Addr) (us : List V), Hc a = some (.tup us) → a ≠ p := fun a us e => ne_of e hpc (by intro z; cases z)
    refine k _ ⟨dx, rt, q2, d, kvs, ts, upd_same, back d _ hD hdp _ _ _ _, TB.mono fun a us e => back a _ e (ne_of e hpc (by unfold fD; intro z; cases z)) _ _ _ _, ?_, back rt _ (sm rt _ ht) (nr _ _ (sm rt _ ht)) _ _ _ _, R.mono fun b r e => back b _ (sm b _ e) (nr _ _ (sm b _ e)) _ _ _ _⟩ fun b o e n => back b o (sm b o e) n _ _ _ _
    rw [upd_ne np2.symm, upd_same, keys_vals TB]
end
end K2
end
section
set_option Elab.async false
set_option maxRecDepth 100000
set_option linter.all false
namespace K2
open PySem L2 PySem.Spec PyProof.Rows
section
variable {X : Cx} {CX : CXT} {k n i : Nat} {f C : Addr} {fd : FuncData} {ps ks : List Str} {sp : Sp} {E : XK} {m x : Str} {o e : Expr} {p q pos apos : Pos} {ta tk te : TA} {g : List Value → List Value → List Value} {gV : List V → List V → List V} {kws : List Keyword}
theorem run_fnK {pins : List (Addr × Obj)} {σ : L2.St} {H : Hp} {s : Shared} {Q : VK} {us ws : List Value} {vs zs : List V} (F : FnOk X.prog X.w X.K X.mg X.base CX k f fd ps sp) (hr : Room k X.A) (hb : KBn X.K fd ps n ks g gV) (hx : Passes CX X E) (I : Inv X pins σ H s)
    (r : Vals vs us) (rz : Vals zs ws) (l1 : us.length = n) (l2 : ws.length = ks.length) (h : sp (gV vs zs) H Q E) : wpAny (model X.prog X.w) X.A (call (.ref f) us (ks.zip ws)) (EP X pins σ Q) X.xe s := by
  refine wpAny_call (codeAny_mono (F.run X.A X.stack s H ⟨us, ks.zip ws⟩ (g us ws) (gV vs zs) Q E hr I.env0 (hb.to s us ws I.kIn l1 l2) (hb.rel r rz) h) fun y z hq => ?_)
  cases y with
  | error e => exact hx pins σ H s e z I hq
  | ok fl =>
    cases fl with
    | ret u => exact I.after hq
    | next => exact hq.elim
    | brk => exact hq.elim
    | cont => exact hq.elim
/-- o.m(k = v, ..) -/
def tMethK (C : Addr) (m : Str) (sp : Sp) (ks : List Str) (gV : List V → List V → List V) (E : XK) (to : TE) (tk : TA) : TE := fun σ H Q => to σ H fun x H1 => ∃ a dx fs, x = .ref a ∧ H1 a = some (.ins C dx fs) ∧ fs.lookup m = none ∧ tk σ H1 fun zs H2 => zs.length = ks.length ∧ sp (gV [x] zs) H2 Q E
theorem pe_methK {to : TE} {pl : Sem Bool} (he : PE X o to) (c : Cls X.K C) (hm : Meth X.K C m f) (F : FnOk X.prog X.w X.K X.mg X.base CX k f fd ps sp) (hr : Room k X.A) (hb : KBn X.K fd ps 1 ks g gV) (hx : Passes CX X E) (hkw : PK X kws tk)
    (hall : (backToKw pos (keywordEach kws X.env)).all (·.1.isSome) = true := by rfl) (hks : (backToKw pos (keywordEach kws X.env)).filterMap (·.1) = ks := by rfl) (hpl : ((backTo pos (starEach [] X.env)).any (·.1) || (backToKw pos (keywordEach kws X.env)).any (·.1.isNone)) = false := by rfl)
    (ht : eval (.Call (.Attribute o m apos) [] kws pos) X.env = (do
      let ov ← eval o X.env
      standAt apos.atName
      let (f, first) ← holding [ov] (getMethod ov m pl)
      callWith pos f first (backTo pos (starEach [] X.env)) (backToKw pos (keywordEach kws X.env))) := by rfl) : PE X (.Call (.Attribute o m apos) [] kws pos) (tMethK C m sp ks gV E to tk) := by
  refine ⟨fun pins s σ H Q I h => PySem.W.methodCall_KW (pl := pl) (thn (he.run pins s σ H _ I h) fun u s1 ⟨x, H1, I1, rx, a, dx, fs, ex, ea, l, q⟩ => ?_) ht⟩
  subst ex
  obtain rfl : u = Value.ref a := rx
  refine getmeth_ok I1 ea c hm l (PySem.W.callWith_KW0 (first := [.ref a]) (h₀ := X.base) I.ok.mod.kin hm.kp hall (thn (hkw.run pos pins s1 σ H1 _ I1 q) fun ws s2 ⟨zs, H2, I2, rz, l2, q2⟩ => ⟨I2.kIn, ?_⟩) hpl)
  rw [hks]
  exact run_fnK (us := [.ref a]) (vs := [.ref a]) F hr hb hx I2 (.cons rfl .nil) rz rfl (by rw [← l2, rz.length]) q2
/-- c(*y), c a name that holds a class -/
def tMakeL (i : Nat) (K : PySem.W.Frag) (C : Addr) (sp : Sp) (E : XK) (te : TE) : TE := fun σ H Q => σ[i]? = some (some (.ref C)) ∧ te σ H fun y H1 => ∃ a xs, y = .ref a ∧ (SqT K H1 a xs ∨ SqL K H1 a xs) ∧ ∀ x dx, H1 x = none → H1 dx = none → dx ≠ x →
  sp (V.ref x :: xs) (upd (upd H1 dx (.own x)) x (.ins C dx [])) (fun v H2 => v = .non ∧ Q (.ref x) H2) E
theorem pe_makeL {te : TE} (M : Mk X.K C f) (F : FnR X.prog X.w X.K X.mg X.base CX k f sp) (hr : Room (k + 1) X.A) (hN : X.N[i]? = some x) (hv : Vis X.env.scope x) (hx : Passes CX X E) (he : PE X e te) (hdb : (x == ("__debug__" : Str)) = false := by decide) (hcd : (x == ("__classdict__" : Str)) = false := by decide)
    (hst : starEach [.Starred e q] X.env = [(true, eval e X.env)] := by rfl) : PE X (.Call (.Name x p) [.Starred e q] [] pos) (tMakeL i X.K C sp E te) := by
  refine ⟨fun pins s σ H Q I ⟨hs, ht⟩ => wpAny_Call_Name_kw (thn ((pe_var (pos := p) hN hv hdb hcd).run pins s σ H (fun v H1 => v = .ref C ∧ H1 = H) I ⟨.ref C, hs, rfl, rfl⟩) fun u s1 ⟨v, H1, I1, r1, q1⟩ => ?_)⟩
  obtain ⟨rfl, rfl⟩ := q1
  cases r1
  refine PySem.W.callWith_S (h₀ := X.base) I.ok.mod.kin M.kp (thn (he.run pins s1 σ _ _ I1 ht) fun v s2 ⟨y, H2, I2, ry, a, xs, ey, hxs, h2⟩ => ?_) hst
  subst ey
  obtain rfl : v = Value.ref a := ry
  exact StX.star_any I2 hxs fun us s3 I3 rv => ⟨I3.kIn, StX.run_makeR M F hr hx I3 rv h2⟩
end
def spWithin (C : Addr) : Sp := fun vs H Q _ => ∃ (p : Addr) (x y : Str) (tb : Tb), vs = [.ref p, .str x, .str y] ∧ ClsAt C H p tb ∧ x ∈ keys tb ∧ Q (.bl (decide (y ∈ look tb x))) H
def spMade (C : Addr) : Sp := fun vs H Q _ => ∃ (l : Addr) (ts : List Addr) (rs : List Row), vs = [.ref C, .ref l] ∧ (H l = some (.lst (ts.map V.ref)) ∨ H l = some (.tup (ts.map V.ref))) ∧ RowsAt H ts rs ∧ Good rs ∧ rs.length ≤ 30 ∧ ∀ (p : Addr) (H' : Hp), ClsW C H' p rs → Same H H' → Q (.ref p) H'
section
variable {P : Program} {w : World} {K : PySem.W.Frag} {mg : Str → Option Value} {base : Heap}
theorem scWithin : FnScope ["self", "one", "other"] ["self", "one", "other"] (defScope sWithin) := ⟨rfl, rfl, rfl, by decide +kernel, rfl, by decide +kernel, by decide +kernel⟩
theorem ok_within {f C : Addr} {fd : FuncData} (F : Fun K "within" "Classes.within" sWithin f fd) (X : Txt K mg C) : FnOk P w K mg base CX0 1 f fd ["self", "one", "other"] (spWithin C) := by
  refine F.ok scWithin (fun vs H Q E h => ?_) (fun cdv A outer s H vs Q E hr h => ?_)
  · obtain ⟨p, x, y, tb, rfl, _⟩ := h
    rfl
  · obtain ⟨p, x, y, tb, rfl, ⟨dx, r, n, l, kvs, hp, hl, TB⟩, hx, k⟩ := h
    have hu := hu_of hr
    refine ⟨_, pss_one (ps_ret (pe_cmp (pc_din hu (pv 2) (pe_dget hu (pe_fld (pv 0) rfl) (pv 1) (fun _ _ => rfl))) rfl)), ?_⟩
    obtain ⟨a, ha1, ha2⟩ := TB.val hx
    refine ⟨_, rfl, _, rfl, p, C, dx, _, _, rfl, hp, X.cl, X.nL, flds_lines _ _ _, _, rfl, l, _, rfl, dget_s hl ha1, a, _, rfl, DGet.k (k := Sum.inr y) ha2, ?_⟩
    rw [dkeys_val]
    by_cases h : y ∈ look tb x
    · rw [if_pos h]
      rw [decide_eq_true h] at k
      exact k
    · rw [if_neg h]
      rw [decide_eq_false h] at k
      exact k
theorem scMade : FnScope ["cls", "rows"] ["cls", "rows"] (defScope sMade) := ⟨rfl, rfl, rfl, by decide +kernel, rfl, by decide +kernel, by decide +kernel⟩
theorem ok_made {f fI C : Addr} {fd : FuncData} (F : Fun K "made" "Classes.made" sMade f fd) (M : Mk K C fI)
    (GI : FnR P w K mg base CX0 4 fI (fun vs H Q E => ∃ ws rest, vs = ws ++ rest ∧ ws.length = 1 ∧ rest.length ≤ sizeLine ∧ ∀ p, H p = none → spInit C (ws ++ [V.ref p]) (upd H p (.tup rest)) Q E)) : FnOk P w K mg base CX0 6 f fd ["cls", "rows"] (spMade C) := by
  refine F.ok scMade (fun vs H Q E h => ?_) (fun cdv A outer s H vs Q E hr h => ?_)
  · obtain ⟨l, ts, rs, rfl, _⟩ := h
    rfl
  · obtain ⟨l, ts, rs, rfl, hl, R, g, h30, k⟩ := h
    refine ⟨_, pss_one (ps_ret (pe_makeL (i := 0) M GI hr rfl (Or.inl rfl) pass0 (pv 1))), ?_⟩
    refine ⟨rfl, _, rfl, l, _, rfl, hl.elim (fun h => .inr (SqL.of h)) (fun h => .inl (SqT.of h)), fun x dx nx ndx ne => ⟨[V.ref x], _, rfl, rfl, ?_, fun pt hpt => ?_⟩⟩
    · rw [List.length_map, R.1]; show _ ≤ 16777216; omega
    have s1 : Same H (upd (upd H dx (.own x)) x (.ins C dx [])) := ((Same.refl H).put ndx).put nx
    have s2 : Same H (upd (upd (upd H dx (.own x)) x (.ins C dx [])) pt (.tup (ts.map V.ref))) := s1.put (s1.free hpt)
    refine ⟨x, dx, pt, ts, rs, rfl, by rw [upd_ne (ne_of_none upd_same hpt), upd_same], upd_same, R.mono fun b r e => s2 b _ e, g, h30, fun H' cl kp => ⟨rfl, k x H' cl fun b o e => kp b o (s2 b o e) (ne_of_none e nx)⟩⟩
end
end K2
end
section
set_option Elab.async false
set_option maxRecDepth 100000
set_option linter.all false
namespace K2
open PySem L2 PySem.Spec PyProof.Rows
/-- a def's promise where no repr runs around -/
structure FnG (P : Program) (w : World) (K : PySem.W.Frag) (mg : Str → Option Value) (base : Heap) (k : Nat) (f : Addr) (fd : FuncData) (ps : List Str) (sp : Sp) : Prop where
  len : ∀ vs H Q E, sp vs H Q E → vs.length = ps.length
  run : ∀ (A : Around) (outer : List Env) (s : Shared) (H : Hp) (args : Args) (us : List Value) (vs : List V) (Q : VK) (E : XK), Room k A → A.guards = some [] → Env0 P w K mg base A outer s H → BindsTo s fd args (ps.zip us) → Vals vs us → sp vs H Q E →
    codeAny (model P w) A (.call (.ref f) args) (CR CX0 outer P w H s Q E) s
section
variable {P : Program} {w : World} {K : PySem.W.Frag} {mg : Str → Option Value} {base : Heap}
theorem okG {x qual : Str} {st : Stmt} {f : Addr} {fd : FuncData} {N ps : List Str} {k : Nat} {sp : Sp} (F : Fun K x qual st f fd) (S : FnScope N ps (defScope st)) (len : ∀ vs H Q E, sp vs H Q E → vs.length = ps.length)
    (body : ∀ (cdv : Value) (A : Around) (outer : List Env) (s : Shared) (H : Hp) (vs : List V) (Q : VK) (E : XK), Room k (A.deeper (envOfC qual (defScope st) s.heap.objs.size f cdv)) → A.guards = some [] → sp vs H Q E →
      ∃ t, PSs (cxOf CX0 P w K mg base N qual (defScope st) f cdv A outer s H E).nox (defBody st) t ∧ t { nx := fun _ H' => Q .non H', rt := Q } (start N vs) H) : FnG P w K mg base (k + 1) f fd ps sp := by
  obtain ⟨oc, od, kV, doc, pm, an, cdv, ct, osl, rfl, lk, hcd⟩ := F.ex
  refine ⟨len, fun A outer s H args us vs Q E hr hg e0 hb rv hs => ?_⟩
  refine StX.run_bnd (G := fun xs H2 => xs = vs ∧ H2 = H) lk hcd S hr e0 (fun A' Ex Q' h => hb _ _ _ _ (h s H vs us e0 Un.refl rfl (fun _ _ z => z) rv (len _ _ _ _ hs) ⟨rfl, rfl⟩)) fun s2 H2 xs ⟨e1, e2⟩ hr2 => ?_
  subst e1 e2
  obtain ⟨t, h1, h2⟩ := body cdv A outer s2 _ _ Q E hr2 hg hs
  exact ⟨t, h1.nox, h2⟩
end
section
variable {X : Cx} {k : Nat} {f : Addr} {fd : FuncData} {ps : List Str} {sp : Sp} {x : Str} {e : Expr} {es : List Expr} {p pos : Pos} {t : TA}
theorem pe_callG (F : FnG X.prog X.w X.K X.mg X.base k f fd ps sp) (hr : Room k X.A) (gu : X.A.guards = some []) (hg : Gl X x) (hm : X.mg x = some (.ref f)) (hk : PySem.W.keepIn X.K (.ref f) = true) (hb : Binds X.K fd ps []) (ha : PA X (e :: es) t) (hdb : (x == ("__debug__" : Str)) = false := by decide)
    (he : starEach (e :: es) X.env = (false, eval e X.env) :: starEach es X.env := by rfl) (hpl : (backTo pos (starEach es X.env)).any (·.1) = false := by rfl) : PE X (.Call (.Name x p) (e :: es) [] pos) (fun σ H Q => t σ H fun vs H1 => sp vs H1 Q E0) := by
  refine ⟨fun pins s σ H Q I h => wpAny_Call_Name_kw (ld_glob I hg hm ?_ hdb)⟩
  refine PySem.W.callWith_K (h₀ := X.base) I.ok.mod.kin hk (thn (ha.run pos pins s σ H _ I h) fun us s1 ⟨vs, H1, I1, r, q⟩ => ⟨I1.kIn, ?_⟩) he hpl
  have l2 : us.length = ps.length := by rw [← r.length]; exact F.len _ _ _ _ q
  have hb2 := hb s1 us I1.kIn (by simpa using l2)
  rw [List.append_nil] at hb2
  refine wpAny_call (codeAny_mono (F.run X.A X.stack s1 H1 ⟨us, []⟩ us vs Q E0 hr gu I1.env0 hb2 r q) fun y z hq => ?_)
  cases y with
  | error e => exact hq.elim
  | ok fl =>
    cases fl with
    | ret u => exact I1.after hq
    | next => exact hq.elim
    | brk => exact hq.elim
    | cont => exact hq.elim
/-! repr of a list of bools -/
def boolsD (bs : List Bool) : PyData := .list (bs.map PyData.bool)
theorem bools_dp (K : PySem.W.Frag) (H : Hp) : ∀ bs : List Bool, DpAll K H (bs.map V.bl) (bs.map PyData.bool)
  | [] => .nil
  | b :: bs => .cons (.bl b) (bools_dp K H bs)
theorem bools_show : ∀ bs : List Bool, PyData.showableAll (bs.map PyData.bool) = true
  | [] => rfl
  | b :: bs => by
    show (true && PyData.showableAll (bs.map PyData.bool)) = true
    rw [bools_show bs]
    rfl
theorem bools_depth : ∀ bs : List Bool, PyData.depthAll (bs.map PyData.bool) = 0
  | [] => rfl
  | b :: bs => by
    show max 0 (PyData.depthAll (bs.map PyData.bool)) = 0
    rw [bools_depth bs]
    rfl
theorem bools_nodict : ∀ bs : List Bool, PyData.hasDictAll (bs.map PyData.bool) = false
  | [] => rfl
  | b :: bs => by
    show (false || PyData.hasDictAll (bs.map PyData.bool)) = false
    rw [bools_nodict bs]
    rfl
theorem bools_sum : ∀ bs : List Bool, ((PyData.shownAll (bs.map PyData.bool)).map (·.length)).sum ≤ 5 * bs.length ∧ (PyData.shownAll (bs.map PyData.bool)).length = bs.length
  | [] => ⟨Nat.le_refl _, rfl⟩
  | b :: bs => by
    obtain ⟨h1, h2⟩ := bools_sum bs
    have hb : (PyData.shown (.bool b)).length ≤ 5 := by cases b <;> decide +kernel
    refine ⟨?_, ?_⟩
    · show (PyData.shown (.bool b)).length + ((PyData.shownAll (bs.map PyData.bool)).map (·.length)).sum ≤ 5 * (bs.length + 1)
      omega
    · show (PyData.shownAll (bs.map PyData.bool)).length + 1 = bs.length + 1
      omega
theorem bools_size (bs : List Bool) (h : bs.length ≤ 1000) : (boolsD bs).shown.length ≤ sizeLine := by
  have h1 := listText_len_le (PyData.shownAll (bs.map PyData.bool))
  obtain ⟨h2, h3⟩ := bools_sum bs
  show (listText (PyData.shownAll (bs.map PyData.bool))).length ≤ 16777216
  omega
/-- repr(xs) of a list of bools: a text that hangs on the bools alone -/
def rReprB (K : PySem.W.Frag) : List V → Hp → VK → Prop := fun xs H Q => ∃ a bs, xs = [V.ref a] ∧ SqL K H a (bs.map V.bl) ∧ (boolsD bs).shown.length ≤ sizeLine ∧ Q (.str (boolsD bs).shown) H
theorem call_reprB (gu : X.A.guards = some []) (hu : X.A.units + 64 < cLine) : CallR X (.builtin "repr") (rReprB X.K) := by
  intro pins s σ H xs us Q I r h
  obtain ⟨a, bs, rfl, hs, hz, q⟩ := h
  obtain ⟨u, rfl, ru⟩ := r.one
  cases ru
  obtain ⟨as, rd⟩ := Dp.reads I (boolsD bs) (V.ref a) (Value.ref a) (.lst hs (bools_dp _ _ bs)) rfl
  have dp : (boolsD bs).depth = 1 := by
    show PyData.depthAll (bs.map PyData.bool) + 1 = 1
    rw [bools_depth]
  refine repr_of_reads' rd (bools_show bs) (fun z => by rw [show (boolsD bs).hasDict = false from bools_nodict bs] at z; cases z) gu (by rw [dp]; omega) (fun b o e => e) (fun h' u tk hk => ⟨.str _, H, I.kept (t' := tk) hk, ⟨u, rfl⟩, q⟩) hz
end
end K2
end
section
set_option Elab.async false
set_option maxRecDepth 100000
set_option linter.all false
namespace K2
open PySem L2 PySem.Spec PyProof.Rows
section
variable {X : Cx} {CX : CXT} {k : Nat} {f C : Addr} {fd : FuncData} {ps : List Str} {sp : Sp} {E : XK}
/-- a def called somewhere below -/
theorem run_at {A : Around} {pins : List (Addr × Obj)} {σ : L2.St} {H : Hp} {s : Shared} {Q : VK} {us : List Value} {vs : List V} (F : FnOk X.prog X.w X.K X.mg X.base CX k f fd ps sp) (hb : Binds X.K fd ps []) (hx : Passes CX X E) (sb : Sub X k A) (I : Inv X pins σ H s) (rv : Vals vs us) (hsp : sp vs H Q E) :
    wpAny (model X.prog X.w) A (call (.ref f) us) (EP X pins σ Q) X.xe s := by
  have e0 : Env0 X.prog X.w X.K X.mg X.base A X.stack s H := by
    have e := I.env0
    exact ⟨by rw [sb.fr]; exact e.frames, e.mod, e.bs, e.bsz, e.funs, e.frf, e.hok, e.bare⟩
  have hl : us.length = ps.length := by rw [← rv.length]; exact F.len _ _ _ _ hsp
  have b2 := hb s us I.kIn (by simpa using hl)
  rw [List.append_nil] at b2
  refine wpAny_call (codeAny_mono (F.run A X.stack s H ⟨us, []⟩ us vs Q E sb.room e0 b2 rv hsp) fun r s' hq => ?_)
  cases r with
  | error e => exact hx pins σ H s e s' I hq
  | ok fl =>
    cases fl with
    | ret w => exact I.after hq
    | next => exact False.elim hq
    | brk => exact False.elim hq
    | cont => exact False.elim hq
/-- len(o) -/
theorem call_lenO (F : FnOk X.prog X.w X.K X.mg X.base CX k f fd ps sp) (hb : Binds X.K fd ps []) (hx : Passes CX X E) (hr : Room (k + 1) X.A) (hs : PySem.W.findIn X.K (.ref C) "__len__" = some (some (.ref f))) (hf : PySem.W.isFn X.K (.ref f) = true) :
    CallR X (.builtin "len") (fun xs H Q => ∃ a dx fs, xs = [.ref a] ∧ H a = some (.ins C dx fs) ∧ sp [.ref a] H (fun v H' => ∃ n : Nat, v = .int n ∧ n < 1000000 ∧ Q (.int n) H') E) := by
  intro pins s σ H xs us Q I r h
  obtain ⟨a, dx, fs, rfl, ha, hsp⟩ := h
  obtain ⟨u, rfl, ru⟩ := r.one
  cases ru
  obtain ⟨mA, J, _⟩ := ins_get I.hok ha
  obtain ⟨od, J, _⟩ := J.look
  obtain ⟨m, hF⟩ := I.fr
  refine PySem.W.len_K hF I.ok.mod.kin J hs hf (wpAny_mono (run_at (vs := [.ref a]) F hb hx (Sub.in1 ⟨hr, rfl⟩) I (.cons rfl .nil) hsp) (fun v s' q => ?_) fun _ _ x => x)
  obtain ⟨x, H', I', rx, n, rfl, hn, q⟩ := q
  obtain ⟨t, rfl⟩ := rx
  exact ⟨⟨by omega, by omega⟩, .int n, H', I'.tok _, ⟨_, rfl⟩, q⟩
/-- x in o -/
theorem op_inO (F : FnOk X.prog X.w X.K X.mg X.base CX k f fd ps sp) (hb : Binds X.K fd ps []) (hx : Passes CX X E) (hr : Room k X.A) (hs : PySem.W.findIn X.K (.ref C) "__contains__" = some (some (.ref f))) (hf : PySem.W.isFn X.K (.ref f) = true) :
    OpR X (compareOp .In) (fun x y H Q => ∃ a dx fs, y = .ref a ∧ H a = some (.ins C dx fs) ∧ sp [.ref a, x] H (fun v H' => ∃ b, v = .bl b ∧ Q (.bl b) H') E) := by
  intro pins s σ H x y v u Q I rx ry h
  obtain ⟨a, dx, fs, rfl, ha, hsp⟩ := h
  cases ry
  obtain ⟨mA, J, _⟩ := ins_get I.hok ha
  obtain ⟨od, J, _⟩ := J.look
  obtain ⟨m, hF⟩ := I.fr
  refine PySem.W.in_K hF I.ok.mod.kin J hs hf (wpAny_mono (run_at (vs := [.ref a, x]) F hb hx ⟨hr, rfl⟩ I (.cons rfl (.cons rx .nil)) hsp) (fun r s' q => ?_) fun _ _ x => x)
  obtain ⟨z, H', I', rz, b, rfl, q⟩ := q
  cases rz
  exact wpAny_truthy_bool ⟨.bl b, H', I', rfl, q⟩
/-- the right side's type, not above the class -/
def RightT (K : PySem.W.Frag) (C : Addr) (H : Hp) (y : V) : Prop := ∃ t, TyX K H y t ∧ PySem.W.notFirst K C t = true
/-- o == y -/
theorem op_eqO (F : FnOk X.prog X.w X.K X.mg X.base CX k f fd ps sp) (hb : Binds X.K fd ps []) (hx : Passes CX X E) (hr : Room k X.A) (hu : X.A.units < cLine) (hs : PySem.W.findIn X.K (.ref C) "__eq__" = some (some (.ref f))) (hf : PySem.W.isFn X.K (.ref f) = true) :
    OpR X (compareOp .Eq) (fun x y H Q => ∃ a dx fs, x = .ref a ∧ H a = some (.ins C dx fs) ∧ RightT X.K C H y ∧ sp [.ref a, y] H (fun v H' => ∃ b, v = .bl b ∧ Q (.bl b) H') E) := by
  intro pins s σ H x y v u Q I rx ry h
  obtain ⟨a, dx, fs, rfl, ha, ⟨t, ty, hn⟩, hsp⟩ := h
  cases rx
  obtain ⟨mA, J, _⟩ := ins_get I.hok ha
  obtain ⟨od, J, _⟩ := J.look
  obtain ⟨m, hF⟩ := I.fr
  obtain ⟨Pz, Z, p, _⟩ := kit_of I ry ty
  show wpAny (model X.prog X.w) X.A (richCompare .Eq (.ref a) u) (EP X pins σ Q) X.xe s
  have lk : PySem.W.Looks (model X.prog X.w) s.heap (typeOf u) t := Z.ty _ _ I.kIn p
  refine PySem.W.cmp_K (op := .Eq) hu hF I.ok.mod.kin J lk hn hs hf (wpAny_mono (run_at (vs := [.ref a, y]) F hb hx ⟨hr, rfl⟩ I (.cons rfl (.cons ry .nil)) hsp) (fun r s' q => ?_) fun _ _ x => x)
  obtain ⟨z, H', I', rz, b, rfl, q⟩ := q
  cases rz
  exact ⟨.bl b, H', I', rfl, q⟩
/-! o != y: by object's own, which asks the class's == -/
theorem bound_ne {M : Model} {A : Around} {Er : Value → Shared → Prop} {s : Shared} {K : PySem.W.Frag} {x C : Addr} {ox : Obj} {od : Option Obj} {args : List Value} {Q : Option Value → Shared → Prop} (Y : K.In s.heap) (J : PySem.W.InstAt s.heap x ox C od)
    (hs : PySem.W.findIn K (.ref C) "__ne__" = some (some (.builtin "object.__ne__"))) (h : wpAny M A (call (.builtin "object.__ne__") (.ref x :: args)) (fun v => Q (some v)) Er s) : wpAny M A (callSpecialIfBound? (.ref x) "__ne__" args) Q Er s := by
  simp only [callSpecialIfBound?, bindSpecialIfBound?]
  refine wpAny_holding (wpAny_bind (wpAny_bind (wpAny_bind (J.type.here ((PySem.W.looks_findIn Y hs).here ?_)))))
  refine wpAny_bind (wpAny_askSetting (wpAny_ite ?_))
  have go : wpAny M A (call (.builtin "object.__ne__") ([.ref x] ++ args) >>= fun v => pure (some v)) Q Er s := wpAny_bind (wpAny_mono h (fun v s' q => wpAny_pure q) fun _ _ q => q)
  split
  · exact wpAny_bind (wpAny_of_eq (F.cmp_object.ne.bind _) (wpAny_pure (by exact go)))
  · exact wpAny_tryCatch (wpAny_bind (wpAny_of_eq (F.cmp_object.ne.bind _) (wpAny_pure (by exact go))))
theorem entry_ne {prog : Program} {w : World} {A : Around} {Er : Value → Shared → Prop} {s : Shared} {K : PySem.W.Frag} {x C f : Addr} {y : Value} {ox : Obj} {od : Option Obj} {Q : Fin → Shared → Prop} (Y : K.In s.heap) (J : PySem.W.InstAt s.heap x ox C od) (hu : A.units < cLine)
    (hs : PySem.W.findIn K (.ref C) "__eq__" = some (some (.ref f))) (hf : PySem.W.isFn K (.ref f) = true)
    (h : wpAny (model prog w) A (call (.ref f) [.ref x, y]) (fun v s' => ∃ b, v = .bool b ∧ Q (.done (.ret (.bool (!b)))) s') Er s) : wpAny (model prog w) A (Builtin.«object.__ne__» ⟨[.ref x, y], []⟩) Q Er s := by
  unfold Builtin.«object.__ne__»
  repeat (first
    | with_reducible refine wpAny_cRoomFor hu ?_
    | (refine wpAny_bind (m := callSpecialIfBound? (.ref x) (Str.ofString "__eq__") [y]) (PySem.W.ifBound_K Y J hs hf (wpAny_mono h (fun r s' hr => by
          obtain ⟨b, rfl, hq⟩ := hr
          repeat (first | exact hq | exact wpAny_pure hq | exact wpAny_truthy_bool hq | (refine wpAny_bind (m := truthy (.bool _)) (wpAny_truthy_bool ?_)) | wp_step)) fun _ _ e => e)))
    | wp_step)
theorem try_ne {prog : Program} {w : World} {A : Around} {Er : Value → Shared → Prop} {s : Shared} {K : PySem.W.Frag} {x C f : Addr} {y : Value} {ox : Obj} {od : Option Obj} {Q : Option Value → Shared → Prop} (Y : K.In s.heap) (J : PySem.W.InstAt s.heap x ox C od) (hu : A.units + 1 < cLine)
    (hn : PySem.W.findIn K (.ref C) "__ne__" = some (some (.builtin "object.__ne__"))) (hm : PySem.W.mroIn K C (.type "object") = some true) (hs : PySem.W.findIn K (.ref C) "__eq__" = some (some (.ref f))) (hf : PySem.W.isFn K (.ref f) = true)
    (h : wpAny (model prog w) A.in1 (call (.ref f) [.ref x, y]) (fun v s' => ∃ b, v = .bool b ∧ Q (some (.bool (!b))) s') Er s) : wpAny (model prog w) A (tryCompare (.ref x) "__ne__" y) Q Er s := by
  unfold tryCompare
  refine wpAny_bind (bound_ne Y J hn (wpAny_call (codeAny_call_builtin F.cmp_object.ne.plain F.cmpEntry_ne (PySem.W.check_slot F.cmpKind_ne F.cmpSplit_ne (J.type.andThen (PySem.W.looks_mroIn Y hm)) (F.cmpArgs_ne _ _)
    (entry_ne (A := A.in1) Y J hu hs hf (wpAny_mono h (fun v s' hv => ?_) fun _ _ e => e))))))
  obtain ⟨b, rfl, hq⟩ := hv
  exact ⟨b, rfl, wpAny_pure hq⟩
theorem op_neO (F : FnOk X.prog X.w X.K X.mg X.base CX k f fd ps sp) (hb : Binds X.K fd ps []) (hx : Passes CX X E) (hr : Room (k + 1) X.A) (hu : X.A.units + 1 < cLine) (hs : PySem.W.findIn X.K (.ref C) "__eq__" = some (some (.ref f))) (hf : PySem.W.isFn X.K (.ref f) = true)
    (hn : PySem.W.findIn X.K (.ref C) "__ne__" = some (some (.builtin "object.__ne__"))) (hm : PySem.W.mroIn X.K C (.type "object") = some true) :
    OpR X (compareOp .NotEq) (fun x y H Q => ∃ a b dx fs dy gs, x = .ref a ∧ y = .ref b ∧ H a = some (.ins C dx fs) ∧ H b = some (.ins C dy gs) ∧ sp [.ref a, .ref b] H (fun v H' => ∃ c, v = .bl c ∧ Q (.bl (!c)) H') E) := by
  intro pins s σ H x y v u Q I rx ry h
  obtain ⟨a, b, dx, fs, dy, gs, rfl, rfl, ha, hb2, hsp⟩ := h
  cases rx
  cases ry
  obtain ⟨mA, J, _⟩ := ins_get I.hok ha
  obtain ⟨od, J, _⟩ := J.look
  obtain ⟨mB, J2, _⟩ := ins_get I.hok hb2
  obtain ⟨od2, J2, _⟩ := J2.look
  have call := run_at (us := [.ref a, .ref b]) (vs := [.ref a, .ref b]) F hb hx (Sub.in1 ⟨hr, rfl⟩) I (.cons rfl (.cons rfl .nil)) hsp
  show wpAny (model X.prog X.w) X.A (richCompare .NotEq (.ref a) (.ref b)) (EP X pins σ Q) X.xe s
  unfold richCompare
  simp only [oneThing_ref]
  refine wpAny_holding (wpAny_bind (wpAny_cRoomFor (Nat.lt_of_succ_lt hu) ?_))
  rw [cmpInfo_NotEq]
  dsimp only
  refine wpAny_bind (J.type.here (wpAny_bind (J2.type.here ?_)))
  rw [show (Value.ref C != Value.ref C) = false from by simp]
  simp only [Bool.false_eq_true, if_false]
  refine wpAny_bind (wpAny_pure ?_)
  simp only [Bool.false_eq_true, if_false]
  refine wpAny_bind (try_ne I.kIn J hu hn hm hs hf (wpAny_mono call (fun r s' q => ?_) fun _ _ x => x))
  obtain ⟨z, H', I', rz, c, rfl, q⟩ := q
  cases rz
  exact ⟨c, rfl, wpAny_pure ⟨.bl (!c), H', I', rfl, q⟩⟩
end
end K2
end
section
set_option Elab.async false
set_option maxRecDepth 100000
set_option linter.all false
namespace K2
open PySem L2 PySem.Spec PyProof.Rows
/-- the staticmethod m of the class at C is the def at g -/
structure SMet (K : PySem.W.Frag) (C : Addr) (mc : Value) (m : Str) (p g : Addr) : Prop where
  at_ : PySem.W.findCls K (.ref C) mc m = some (.get (.builtin "staticmethod.__get__") (.ref p) .none (.ref C))
  rc : ∃ rest, PySem.W.recIn K p "staticmethod" = some (.ref g :: rest)
  kp : PySem.W.keepIn K (.ref g) = true
section
variable {X : Cx} {CX : CXT} {k : Nat} {f g C p : Addr} {mc : Value} {fd : FuncData} {ps ks : List Str} {sp : Sp} {E : XK} {m x : Str} {o e : Expr} {q pos apos nap : Pos} {ta te tk : TE} {tks : TA} {kws : List Keyword}
/-- C.m(), m a staticmethod -/
theorem pe_smeth0 {pl : Sem Bool} (he : PE X o ta) (r : ClX.CRead X.K C mc) (c : SMet X.K C mc m p g) (F : FnOk X.prog X.w X.K X.mg X.base CX k g fd [] sp) (hb : Binds X.K fd [] []) (hr : Room k X.A) (hx : Passes CX X E)
    (ht : eval (.Call (.Attribute o m apos) [] [] pos) X.env = (do
      let ov ← eval o X.env
      standAt apos.atName
      let (f, first) ← holding [ov] (getMethod ov m pl)
      callWith pos f first (backTo pos (starEach [] X.env)) (backToKw pos (keywordEach [] X.env))) := by rfl) : PE X (.Call (.Attribute o m apos) [] [] pos) (fun σ H Q => ta σ H fun z H1 => z = .ref C ∧ sp [] H1 Q E) := by
  constructor
  intro pins s σ H Q I h
  refine PySem.W.methodCall_KW (pl := pl) (thn (he.run pins s σ H _ I h) fun u s1 ⟨z, H1, I1, rz, ez, hs⟩ => ?_) ht
  subst ez
  obtain rfl : u = Value.ref C := rz
  obtain ⟨rest, hp⟩ := c.rc
  refine PySem.W.method_cls I1.kIn r.ga (PySem.W.cls_bind I1.kIn r.rd c.at_ (wpAny_call (PySem.W.sm_get (s := { s1 with toks := s1.toks + 1 }) I1.kIn hp (PySem.W.handed_on rfl ?_))))
  have I2 := I1.tok (s1.toks + 1)
  exact PySem.W.callWith_K0 (first := []) I2.kIn c.kp (run_at (us := []) (vs := []) F hb hx ⟨hr, rfl⟩ I2 .nil hs)
/-- x(), x a class whose __init__ takes any number of things -/
theorem pe_makeR0 (M : Mk X.K C f) (F : FnR X.prog X.w X.K X.mg X.base CX k f sp) (hr : Room (k + 1) X.A) (hg : Gl X x) (hm : X.mg x = some (.ref C)) (hx : Passes CX X E) (hdb : (x == ("__debug__" : Str)) = false := by decide) :
    PE X (.Call (.Name x nap) [] [] pos) (fun σ H Q => ∀ y dx, H y = none → H dx = none → dx ≠ y → sp [V.ref y] (upd (upd H dx (.own y)) y (.ins C dx [])) (fun v H2 => v = .non ∧ Q (.ref y) H2) E) := by
  constructor
  intro pins s σ H Q I h
  refine wpAny_Call_Name_kw (ld_glob I hg hm ?_ hdb)
  exact PySem.W.callWith_K0 (first := []) I.kIn M.kp (StX.run_makeR (us := []) (vs := []) M F hr hx I .nil h)
/-- x(*e) -/
theorem pe_makeSG (M : Mk X.K C f) (F : FnR X.prog X.w X.K X.mg X.base CX k f sp) (hr : Room (k + 1) X.A) (hg : Gl X x) (hm : X.mg x = some (.ref C)) (hx : Passes CX X E) (he : PE X e te) (hdb : (x == ("__debug__" : Str)) = false := by decide)
    (hst : starEach [.Starred e q] X.env = [(true, eval e X.env)] := by rfl) : PE X (.Call (.Name x nap) [.Starred e q] [] pos) (fun σ H Q => te σ H fun z H1 => ∃ a xs, z = .ref a ∧ (SqT X.K H1 a xs ∨ SqL X.K H1 a xs) ∧ ∀ y dx, H1 y = none → H1 dx = none → dx ≠ y →
      sp (V.ref y :: xs) (upd (upd H1 dx (.own y)) y (.ins C dx [])) (fun v H2 => v = .non ∧ Q (.ref y) H2) E) := by
  constructor
  intro pins s σ H Q I h
  refine wpAny_Call_Name_kw (ld_glob I hg hm ?_ hdb)
  refine PySem.W.callWith_S (h₀ := X.base) I.ok.mod.kin M.kp (thn (he.run pins s σ H _ I h) fun v s2 ⟨z, H2, I2, rz, a, xs, ez, hxs, h2⟩ => ?_) hst
  subst ez
  obtain rfl : v = Value.ref a := rz
  exact StX.star_any I2 hxs fun us s3 I3 rv => ⟨I3.kIn, StX.run_makeR M F hr hx I3 rv h2⟩
/-- o.m(), m takes any number of things -/
theorem pe_methR0 {pl : Sem Bool} (he : PE X o ta) (c : Cls X.K C) (hm : Meth X.K C m f) (F : FnR X.prog X.w X.K X.mg X.base CX k f sp) (hr : Room k X.A) (hx : Passes CX X E)
    (ht : eval (.Call (.Attribute o m apos) [] [] pos) X.env = (do
      let ov ← eval o X.env
      standAt apos.atName
      let (f, first) ← holding [ov] (getMethod ov m pl)
      callWith pos f first (backTo pos (starEach [] X.env)) (backToKw pos (keywordEach [] X.env))) := by rfl) : PE X (.Call (.Attribute o m apos) [] [] pos) (fun σ H Q => ta σ H fun z H1 => ∃ a dx fs, z = .ref a ∧ H1 a = some (.ins C dx fs) ∧ fs.lookup m = none ∧ sp [.ref a] H1 Q E) := by
  constructor
  intro pins s σ H Q I h
  refine PySem.W.methodCall_KW (pl := pl) (thn (he.run pins s σ H _ I h) fun u s1 ⟨z, H1, I1, rz, a, dx, fs, ez, ea, l, hs⟩ => ?_) ht
  subst ez
  obtain rfl : u = Value.ref a := rz
  exact getmeth_ok I1 ea c hm l (PySem.W.callWith_K0 (first := [.ref a]) I1.kIn hm.kp (wpAny_call (run_fnR (us := [.ref a]) (vs := [.ref a]) F hr hx I1 (.cons rfl .nil) hs)))
/-- C.m(k = v, ..), m a classmethod -/
theorem pe_cmethK {pl : Sem Bool} {gr : List Value → List Value → List Value} {gV : List V → List V → List V} (he : PE X o ta) (r : ClX.CRead X.K C mc) (c : ClX.CMet X.K C mc m p g) (F : FnOk X.prog X.w X.K X.mg X.base CX k g fd ps sp) (hr : Room k X.A) (hb : KBn X.K fd ps 1 ks gr gV) (hx : Passes CX X E) (hkw : PK X kws tks)
    (hall : (backToKw pos (keywordEach kws X.env)).all (·.1.isSome) = true := by rfl) (hks : (backToKw pos (keywordEach kws X.env)).filterMap (·.1) = ks := by rfl) (hpl : ((backTo pos (starEach [] X.env)).any (·.1) || (backToKw pos (keywordEach kws X.env)).any (·.1.isNone)) = false := by rfl)
    (ht : eval (.Call (.Attribute o m apos) [] kws pos) X.env = (do
      let ov ← eval o X.env
      standAt apos.atName
      let (f, first) ← holding [ov] (getMethod ov m pl)
      callWith pos f first (backTo pos (starEach [] X.env)) (backToKw pos (keywordEach kws X.env))) := by rfl) :
    PE X (.Call (.Attribute o m apos) [] kws pos) (fun σ H Q => ta σ H fun z H1 => z = .ref C ∧ tks σ H1 fun zs H2 => zs.length = ks.length ∧ sp (gV [.ref C] zs) H2 Q E) := by
  constructor
  intro pins s σ H Q I h
  refine PySem.W.methodCall_KW (pl := pl) (thn (he.run pins s σ H _ I h) fun u s1 ⟨z, H1, I1, rz, ez, hs⟩ => ?_) ht
  subst ez
  obtain rfl : u = Value.ref C := rz
  refine ClX.getmethcm_ok I1 r c fun s2 I2 => ?_
  refine PySem.W.callWith_of (P := PySem.W.MethP X.K s1.heap.objs.size g (.ref C)) hpl (PySem.W.keeps_M c.fi) (evalArgs_kw2_nil hall (thn (hkw.run pos _ s2 σ H1 _ I2 hs) fun ws s3 ⟨zs, H2, I3, rw', l2, q2⟩ => ⟨⟨ClX.pin_at I3, I3.kIn⟩, ?_⟩))
  rw [hks]
  have z : wpAny (model X.prog X.w) X.A (call (.ref s1.heap.objs.size) [] (ks.zip ws)) (EP X ((s1.heap.objs.size, PySem.W.methodObj (.ref g) (.ref C)) :: pins) σ Q) X.xe s3 := by
    refine wpAny_call (PySem.W.method_call (ClX.pin_at I3) (codeAny_mono (F.run X.A X.stack s3 H2 ⟨[.ref C], ks.zip ws⟩ (gr [.ref C] ws) (gV [.ref C] zs) Q E hr I3.env0 (hb.to s3 [.ref C] ws I3.kIn rfl (by rw [← l2, rw'.length])) (hb.rel (vs := [.ref C]) (us := [.ref C]) (.cons rfl .nil) rw') q2) fun y z hq => ?_))
    cases y with
    | error e => exact hx _ σ H2 s3 e z I3 hq
    | ok fl =>
      cases fl with
      | ret u => exact I3.after hq
      | next => exact hq.elim
      | brk => exact hq.elim
      | cont => exact hq.elim
  exact thn z fun _ _ y => ClX.unpinE y
end
end K2
end
section
set_option Elab.async false
set_option maxRecDepth 100000
set_option linter.all false
namespace K2
open PySem L2 PySem.Spec PyProof.Rows
theorem strs_dp (K : PySem.W.Frag) (H : Hp) : ∀ xs : List Str, DpAll K H (xs.map V.str) (xs.map PyData.str)
  | [] => .nil
  | x :: xs => .cons (.str x) (strs_dp K H xs)
def sOk (x : Str) : Bool := x.cps.all (· < 0x110000)
theorem strs_lay : ∀ xs : List Str, (∀ x ∈ xs, sOk x = true) → PyData.canLayAll0 (xs.map PyData.str) = true
  | [], _ => rfl
  | x :: xs, h => by
    show (sOk x && PyData.canLayAll0 (xs.map PyData.str)) = true
    rw [strs_lay xs fun y hy => h y (List.mem_cons_of_mem _ hy), h x List.mem_cons_self]
    rfl
theorem strs_depth : ∀ xs : List Str, PyData.depthAll (xs.map PyData.str) = 0
  | [] => rfl
  | x :: xs => by
    show max 0 (PyData.depthAll (xs.map PyData.str)) = 0
    rw [strs_depth xs]
    rfl
theorem strs_shaped (xs : List Str) (h : ∀ x ∈ xs, sOk x = true) : SeqAt.shaped (.list (xs.map PyData.str)) = true := by
  show (PyData.canLayAll0 (xs.map PyData.str) && decide (PyData.depthAll (xs.map PyData.str) + 1 ≤ 64)) = true
  rw [strs_lay xs h, strs_depth]
  rfl
theorem strs_eqv0 (xs : List Str) : PyData.eqv (.list (xs.map PyData.str)) (.list []) = decide (xs = []) := by
  cases xs with
  | nil => rfl
  | cons x xs => rfl
/-! ### repr of any data of the heap without dicts -/
def rReprD (K : PySem.W.Frag) : List V → Hp → VK → Prop := fun xs H Q => ∃ a d, xs = [V.ref a] ∧ Dp K H (.ref a) d ∧ d.showable = true ∧ d.hasDict = false ∧ d.depth ≤ 8 ∧ d.shown.length ≤ sizeLine ∧ Q (.str d.shown) H
section
variable {X : Cx}
theorem call_reprD (gu : X.A.guards = some []) (hu : X.A.units + 64 < cLine) : CallR X (.builtin "repr") (rReprD X.K) := by
  intro pins s σ H xs us Q I r h
  obtain ⟨a, d, rfl, hd, hs, hn, dp, hz, q⟩ := h
  obtain ⟨u, rfl, ru⟩ := r.one
  cases ru
  obtain ⟨as, rd⟩ := Dp.reads I d (V.ref a) (Value.ref a) hd rfl
  exact repr_of_reads' rd hs (fun z => by rw [hn] at z; cases z) gu (by omega) (fun b o e => e) (fun h' u tk hk => ⟨.str _, H, I.kept (t' := tk) hk, ⟨u, rfl⟩, q⟩) hz
end
/-- a tuple of texts -/
def tD (ys : List Str) : PyData := .tuple (ys.map PyData.str)
theorem strs_show : ∀ xs : List Str, PyData.showableAll (xs.map PyData.str) = true
  | [] => rfl
  | x :: xs => by
    show (true && PyData.showableAll (xs.map PyData.str)) = true
    rw [strs_show xs]
    rfl
theorem strs_nodict : ∀ xs : List Str, PyData.hasDictAll (xs.map PyData.str) = false
  | [] => rfl
  | x :: xs => by
    show (false || PyData.hasDictAll (xs.map PyData.str)) = false
    rw [strs_nodict xs]
    rfl
theorem strs_weight : ∀ xs : List Str, (∀ x ∈ xs, x.length ≤ 8) → PyData.weightAll (xs.map PyData.str) ≤ 9 * xs.length
  | [], _ => Nat.le_refl _
  | x :: xs, h => by
    have ih := strs_weight xs fun y hy => h y (List.mem_cons_of_mem _ hy)
    have hx : x.cps.size ≤ 8 := h x List.mem_cons_self
    show x.cps.size + 1 + PyData.weightAll (xs.map PyData.str) ≤ 9 * (xs.length + 1)
    omega
theorem tD_show (ys : List Str) : (tD ys).showable = true := strs_show ys
theorem tD_nodict (ys : List Str) : (tD ys).hasDict = false := strs_nodict ys
theorem tD_depth (ys : List Str) : (tD ys).depth = 1 := by
  show PyData.depthAll (ys.map PyData.str) + 1 = 1
  rw [strs_depth]
theorem tD_fits {ys : List Str} (ok : ∀ y ∈ ys, sOk y = true) (h8 : ∀ y ∈ ys, y.length ≤ 8) (hl : ys.length ≤ 40) : (tD ys).shown.length ≤ sizeLine := by
  refine PyData.shown_fits_of_layable0 (B := 13) (by decide) (by decide) ?_ (PyData.intsShortAll_strs 13 ys)
  have w := strs_weight ys h8
  have q : PyData.weight (tD ys) = PyData.weightAll (ys.map PyData.str) := rfl
  show (PyData.canLayAll0 (ys.map PyData.str) && decide (PyData.depth (tD ys) ≤ 64) && decide (PyData.weight (tD ys) ≤ 2 ^ 20)) = true
  rw [strs_lay ys ok, tD_depth, q]
  simp only [Bool.true_and, Bool.and_eq_true, decide_eq_true_eq]
  omega
/-! rows shown -/
def rowsD (rs : List Row) : PyData := .tuple (rs.map fun r => tD (r.1 :: r.2))
theorem rows_dp (K : PySem.W.Frag) {H : Hp} : ∀ (rs : List Row) (ts : List Addr), RowsAt H ts rs → DpAll K H (ts.map V.ref) (rs.map fun r => tD (r.1 :: r.2))
  | [], [], _ => .nil
  | [], _ :: _, h => absurd h.1 (by simp)
  | _ :: _, [], h => absurd h.1 (by simp)
  | r :: rs, t :: ts, h => .cons (.tup (SqT.of (h.2 0 t r rfl rfl)) (strs_dp K H (r.1 :: r.2))) (rows_dp K rs ts ⟨by have := h.1; simpa using this, fun i u q a b => h.2 (i + 1) u q a b⟩)
theorem rows_show : ∀ rs : List Row, PyData.showableAll (rs.map fun r => tD (r.1 :: r.2)) = true
  | [] => rfl
  | r :: rs => by
    show (PyData.showable (tD (r.1 :: r.2)) && PyData.showableAll (rs.map fun r => tD (r.1 :: r.2))) = true
    rw [tD_show, rows_show rs]
    rfl
theorem rows_nodict : ∀ rs : List Row, PyData.hasDictAll (rs.map fun r => tD (r.1 :: r.2)) = false
  | [] => rfl
  | r :: rs => by
    show (PyData.hasDict (tD (r.1 :: r.2)) || PyData.hasDictAll (rs.map fun r => tD (r.1 :: r.2))) = false
    rw [tD_nodict, rows_nodict rs]
    rfl
theorem rows_depth : ∀ rs : List Row, PyData.depthAll (rs.map fun r => tD (r.1 :: r.2)) ≤ 1
  | [] => Nat.zero_le _
  | r :: rs => by
    show max (PyData.depth (tD (r.1 :: r.2))) (PyData.depthAll (rs.map fun r => tD (r.1 :: r.2))) ≤ 1
    rw [tD_depth]
    exact Nat.max_le.mpr ⟨Nat.le_refl _, rows_depth rs⟩
structure RowFit (r : Row) : Prop where
  ok : ∀ y ∈ r.1 :: r.2, sOk y = true
  h8 : ∀ y ∈ r.1 :: r.2, y.length ≤ 8
  len : (r.1 :: r.2).length ≤ 40
theorem rows_lay : ∀ rs : List Row, (∀ r ∈ rs, RowFit r) → PyData.canLayAll0 (rs.map fun r => tD (r.1 :: r.2)) = true
  | [], _ => rfl
  | r :: rs, h => by
    have q : PyData.canLay0 (tD (r.1 :: r.2)) = true := strs_lay _ (h r List.mem_cons_self).ok
    show (PyData.canLay0 (tD (r.1 :: r.2)) && PyData.canLayAll0 (rs.map fun r => tD (r.1 :: r.2))) = true
    rw [q, rows_lay rs fun y hy => h y (List.mem_cons_of_mem _ hy)]
    rfl
theorem rows_short : ∀ rs : List Row, PyData.intsShortAll 13 (rs.map fun r => tD (r.1 :: r.2)) = true
  | [] => rfl
  | r :: rs => by
    have q : PyData.intsShort 13 (tD (r.1 :: r.2)) = true := PyData.intsShortAll_strs 13 (r.1 :: r.2)
    show (PyData.intsShort 13 (tD (r.1 :: r.2)) && PyData.intsShortAll 13 (rs.map fun r => tD (r.1 :: r.2))) = true
    rw [q, rows_short rs]
    rfl
theorem rows_weight : ∀ rs : List Row, (∀ r ∈ rs, RowFit r) → PyData.weightAll (rs.map fun r => tD (r.1 :: r.2)) ≤ 361 * rs.length
  | [], _ => Nat.le_refl _
  | r :: rs, h => by
    have R := h r List.mem_cons_self
    have w := strs_weight (r.1 :: r.2) R.h8
    have l := R.len
    have ih := rows_weight rs fun y hy => h y (List.mem_cons_of_mem _ hy)
    show PyData.weightAll ((r.1 :: r.2).map PyData.str) + 1 + PyData.weightAll (rs.map fun r => tD (r.1 :: r.2)) ≤ 361 * (rs.length + 1)
    omega
theorem rowsD_show (rs : List Row) : (rowsD rs).showable = true := rows_show rs
theorem rowsD_nodict (rs : List Row) : (rowsD rs).hasDict = false := rows_nodict rs
theorem rowsD_depth (rs : List Row) : (rowsD rs).depth ≤ 2 := by
  have := rows_depth rs
  show PyData.depthAll (rs.map fun r => tD (r.1 :: r.2)) + 1 ≤ 2
  omega
theorem rowsD_fits {rs : List Row} (h : ∀ r ∈ rs, RowFit r) (hl : rs.length ≤ 40) : (rowsD rs).shown.length ≤ sizeLine := by
  refine PyData.shown_fits_of_layable0 (B := 13) (by decide) (by decide) ?_ (rows_short rs)
  have w := rows_weight rs h
  have d := rowsD_depth rs
  have q : PyData.weight (rowsD rs) = PyData.weightAll (rs.map fun r => tD (r.1 :: r.2)) := rfl
  show (PyData.canLayAll0 (rs.map fun r => tD (r.1 :: r.2)) && decide (PyData.depth (rowsD rs) ≤ 64) && decide (PyData.weight (rowsD rs) ≤ 2 ^ 20)) = true
  rw [rows_lay rs h, q]
  simp only [Bool.true_and, Bool.and_eq_true, decide_eq_true_eq]
  omega
theorem vw_ok {x : Str} (h : VW x) : sOk x = true ∧ x.length ≤ 8 := by
  have l := h.le
  refine ⟨?_, l⟩
  have q := h.low
  unfold sOk
  rw [Array.all_eq_true]
  intro i hi
  have := q x.cps[i] (by
    show x.cps[i] ∈ x.cps.toList
    exact Array.getElem_mem_toList hi)
  simp only [decide_eq_true_eq]
  omega
theorem Good.fit {rs : List Row} (g : Good rs) (h30 : rs.length ≤ 30) : ∀ r ∈ rs, RowFit r := by
  intro r hr
  obtain ⟨i, hi⟩ := List.getElem?_of_mem hr
  have R := g i r hi
  have il : i < rs.length := (List.getElem?_eq_some_iff.mp hi).1
  have vw : ∀ y ∈ r.1 :: r.2, VW y := fun y hy => by
    rcases List.mem_cons.mp hy with rfl | hy
    · exact R.vw
    · exact g.vw_known i y (R.sub y hy)
  refine ⟨fun y hy => (vw_ok (vw y hy)).1, fun y hy => (vw_ok (vw y hy)).2, ?_⟩
  have := R.nd.length_le_of_subset R.sub
  rw [knownAt_len (Nat.le_of_lt il)] at this
  rw [List.length_cons]
  omega
theorem RowsAt.left {H : Hp} {ts1 ts2 : List Addr} {rs1 rs2 : List Row} (h : RowsAt H (ts1 ++ ts2) (rs1 ++ rs2)) (e : ts1.length = rs1.length) : RowsAt H ts1 rs1 := by
  refine ⟨e, fun i t r a b => ?_⟩
  have i1 := (List.getElem?_eq_some_iff.mp a).1
  have i2 := (List.getElem?_eq_some_iff.mp b).1
  exact h.2 i t r (by rw [List.getElem?_append_left i1]; exact a) (by rw [List.getElem?_append_left i2]; exact b)
theorem refs_ne_pen {ts : List Addr} {c : Addr} {a l : Int} : HO.lst (ts.map V.ref) ≠ penO c a l := by
  unfold penO
  intro e
  injection e with e
  match ts, e with
  | [], e => simp at e
  | [_], e => simp at e
  | _ :: _ :: _, e => simp at e
theorem Pen.refs_ne {H : Hp} {p c q : Addr} {ns : List Int} {n : Nat} {ts : List Addr} (h : Pen H p c ns n) (hq : H q = some (.lst (ts.map V.ref))) : q ≠ p := fun e => by
  obtain ⟨a, l, g, _⟩ := h.pen
  rw [e, g] at hq
  exact refs_ne_pen (Option.some.inj hq).symm
theorem tD_eqv (x : Str) : PyData.eqv (tD [x]) (tD [x]) = true := by
  show ((x == x) && true) = true
  simp
theorem tD_shaped (xs : List Str) (h : ∀ x ∈ xs, sOk x = true) : SeqAt.shaped (tD xs) = true := by
  show (PyData.canLayAll0 (xs.map PyData.str) && decide (PyData.depthAll (xs.map PyData.str) + 1 ≤ 64)) = true
  rw [strs_lay xs h, strs_depth]
  rfl
theorem Tab.mp {p : Addr} {f : List Str → HO} {H H' : Hp} {kvs : List (Key × V)} {t : Tb} (h : Tab f H kvs t) (k : Keep p H H') (n : ∀ us, H p ≠ some (f us)) : Tab f H' kvs t := h.mono fun a us e => k a _ e fun q => n us (q ▸ e)
theorem any_filter {α : Type} (p : α → Bool) : ∀ l : List α, (!decide (l.filter p = [])) = l.any p
  | [] => rfl
  | x :: l => by
    rw [List.filter_cons, List.any_cons]
    cases h : p x with
    | true => simp
    | false => simpa using any_filter p l
theorem op_neDK {X : Cx} {K' : PySem.W.Frag} (hK : X.K = K') (hu : X.A.units + 64 < cLine) : OpR X (compareOp .NotEq) (rNeD K') := by
  subst hK
  exact op_neD hu
theorem call_reprBl {X : Cx} : CallR X (.builtin "repr") (fun xs H Q => ∃ b, xs = [V.bl b] ∧ Q (.str (if b then "True" else "False")) H) := by
  intro pins s σ H xs us Q I r h
  obtain ⟨b, rfl, q⟩ := h
  obtain ⟨u, rfl, ru⟩ := r.one
  obtain rfl : u = Value.bool b := ru
  exact PySem.P.repr_of_bool ⟨.str _, H, I.tok _, ⟨_, rfl⟩, q⟩
theorem ClsW.kp {C p c b : Addr} {ns : List Int} {n : Nat} {H H' : Hp} {rs : List Row} (h : ClsW C H b rs) (k : Keep p H H') (P : Pen H p c ns n) : ClsW C H' b rs := by
  obtain ⟨a, l, g, _⟩ := P.pen
  obtain ⟨dx, r, m, d, kvs, ts, h1, h2, h3, h4, h5, h6⟩ := h
  have nt : ∀ (q : Addr) (xs : List V), H q = some (.tup xs) → q ≠ p := fun q xs e z => by
    rw [z, g] at e
    cases e
  refine ⟨dx, r, m, d, kvs, ts, k _ _ h1 fun e => ?_, k _ _ h2 fun e => ?_, h3.mono fun a us e => k a _ e fun q => ?_, k _ _ h4 (nt _ _ h4), k _ _ h5 (nt _ _ h5), h6.mono fun b r e => k b _ e (nt _ _ e)⟩
  · rw [e, g] at h1
    cases h1
  · rw [e, g] at h2
    cases h2
  · rw [q, g] at e
    unfold penO fD at e
    cases e
theorem pe_fldK {X : Cx} {K' : PySem.W.Frag} {e : Expr} {f : Str} {pos : Pos} {ta : TE} (hK : X.K = K') (he : PE X e ta) (hb : attributeBase e f X.env (eval e X.env) = eval e X.env) : PE X (.Attribute e f pos) (tFld K' ta f) := by
  subst hK
  exact pe_fld he hb
theorem ClsW.same {C p : Addr} {H H' : Hp} {rs : List Row} (h : ClsW C H p rs) (s : Same H H') : ClsW C H' p rs := by
  obtain ⟨dx, r, n, l, kvs, ts, h1, h2, h3, h4, h5, h6⟩ := h
  exact ⟨dx, r, n, l, kvs, ts, s _ _ h1, s _ _ h2, h3.mono fun a us e => s a _ e, s _ _ h4, s _ _ h5, h6.mono fun b r e => s b _ e⟩
theorem strs_eqv : ∀ xs ys : List Str, PyData.eqvAll (xs.map PyData.str) (ys.map PyData.str) = decide (xs = ys)
  | [], [] => rfl
  | [], _ :: _ => rfl
  | _ :: _, [] => rfl
  | x :: xs, y :: ys => by
    show ((x == y) && PyData.eqvAll (xs.map PyData.str) (ys.map PyData.str)) = decide (x :: xs = y :: ys)
    rw [strs_eqv xs ys, Bool.eq_iff_iff]
    simp
theorem rows_eqv : ∀ rs qs : List Row, PyData.eqvAll (rs.map fun r => tD (r.1 :: r.2)) (qs.map fun r => tD (r.1 :: r.2)) = decide (rs = qs)
  | [], [] => rfl
  | [], _ :: _ => rfl
  | _ :: _, [] => rfl
  | r :: rs, q :: qs => by
    show (PyData.eqvAll ((r.1 :: r.2).map PyData.str) ((q.1 :: q.2).map PyData.str) && PyData.eqvAll (rs.map fun r => tD (r.1 :: r.2)) (qs.map fun r => tD (r.1 :: r.2))) = decide (r :: rs = q :: qs)
    rw [strs_eqv, rows_eqv rs qs, Bool.eq_iff_iff]
    obtain ⟨a, as⟩ := r
    obtain ⟨b, bs⟩ := q
    simp
theorem rowsD_eqv (rs qs : List Row) : PyData.eqv (rowsD rs) (rowsD qs) = decide (rs = qs) := rows_eqv rs qs
theorem rowsD_shaped {rs : List Row} (h : ∀ r ∈ rs, RowFit r) : SeqAt.shaped (rowsD rs) = true := by
  have d := rowsD_depth rs
  show (PyData.canLayAll0 (rs.map fun r => tD (r.1 :: r.2)) && decide (PyData.depth (rowsD rs) ≤ 64)) = true
  rw [rows_lay rs h]
  simp only [Bool.true_and, decide_eq_true_eq]
  omega
end K2
end
section
set_option Elab.async false
set_option maxRecDepth 100000
set_option linter.all false
namespace K2
open PySem L2 PySem.Spec PyProof.Rows
abbrev sPlain : Stmt := inClass (top 12) 1
abbrev sLen : Stmt := inClass (top 12) 3
abbrev sCo : Stmt := inClass (top 12) 4
abbrev sEq : Stmt := inClass (top 12) 5
abbrev sWR : Stmt := inClass (top 12) 7
structure Own (K : PySem.W.Frag) (C : Addr) : Prop where
  ha : PySem.W.findIn K (.ref C) "__class__" = some (some (.builtin "object.__class__"))
  hn : PySem.W.specialIn K (.builtin "object.__class__") "__get__" = some (some (.builtin "getset_descriptor.__get__"))
  htk : PySem.W.takesIn K (.builtin "object.__class__") = some true
  hm : PySem.W.mroIn K C (.type "object") = some true
theorem ClsW.ty {K : PySem.W.Frag} {C p : Addr} {H : Hp} {rs : List Row} (h : ClsW C H p rs) (c : Cls K C) (o : Own K C) : TyX K H (.ref p) (.ref C) := by
  obtain ⟨dx, r, n, l, kvs, ts, h1, _⟩ := h
  exact .base (.ins h1 c o.ha o.hn o.htk o.hm)
theorem ClsW.ins {C p : Addr} {H : Hp} {rs : List Row} (h : ClsW C H p rs) : ∃ dx fs, H p = some (.ins C dx fs) ∧ ∀ m : Str, ¬ m = "_lines" → ¬ m = "names" → ¬ m = "rows" → fs.lookup m = none := by
  obtain ⟨dx, r, n, l, kvs, ts, h1, _⟩ := h
  exact ⟨dx, _, h1, fun m a b c => flds_no r n l a b c⟩
theorem kit_own {K : PySem.W.Frag} (C : Addr) : PySem.W.kitOne K (.ref C) (.ref C) = some true := by
  unfold PySem.W.kitOne
  rw [if_pos (by simp)]
theorem right_own {K : PySem.W.Frag} {C p : Addr} {H : Hp} {rs : List Row} (h : ClsW C H p rs) (c : Cls K C) (o : Own K C) : RightT K C H (.ref p) := ⟨_, h.ty c o, by unfold PySem.W.notFirst; simp⟩
def spLenC (C : Addr) : Sp := fun vs H Q _ => ∃ (p : Addr) (rs : List Row), vs = [.ref p] ∧ ClsW C H p rs ∧ Q (.int ((rs.length + 2 : Nat) : Int)) H
def spCo (K : PySem.W.Frag) (C : Addr) : Sp := fun vs H Q _ => ∃ (p : Addr) (x : V) (rs : List Row), vs = [.ref p, x] ∧ ClsW C H p rs ∧
  ((∃ y, x = .str y ∧ Q (.bl (decide (y ∈ keys (ups rs)))) H) ∨ (∃ t, TyX K H x t ∧ PySem.W.kitOne K t (.type "str") = some false ∧ Q (.bl false) H))
def spEqC (K : PySem.W.Frag) (C : Addr) : Sp := fun vs H Q _ => ∃ (p : Addr) (y : V) (rs : List Row), vs = [.ref p, y] ∧ ClsW C H p rs ∧ (∀ r ∈ rs, RowFit r) ∧
  ((∃ q qs, y = .ref q ∧ ClsW C H q qs ∧ (∀ r ∈ qs, RowFit r) ∧ Q (.bl (decide (rs = qs))) H) ∨ (∃ t, TyX K H y t ∧ PySem.W.kitOne K t (.ref C) = some false ∧ Q (.bl false) H))
def spWR (C : Addr) : Sp := fun vs H Q _ => ∃ (p t : Addr) (rs qs : List Row) (ts : List Addr), vs = [.ref p, .ref t] ∧ ClsW C H p rs ∧ H t = some (.tup (ts.map V.ref)) ∧ RowsAt H ts qs ∧ Good (rs ++ qs) ∧ (rs ++ qs).length ≤ 30 ∧
  ∀ (r : Addr) (H' : Hp), ClsW C H' r (rs ++ qs) → Same H H' → Q (.ref r) H'
def spWRr (C : Addr) : Sp := fun vs H Q E => ∃ ws rest, vs = ws ++ rest ∧ ws.length = 1 ∧ rest.length ≤ sizeLine ∧ ∀ p, H p = none → spWR C (ws ++ [V.ref p]) (upd H p (.tup rest)) Q E
def spInitR (C : Addr) : Sp := fun vs H Q E => ∃ ws rest, vs = ws ++ rest ∧ ws.length = 1 ∧ rest.length ≤ sizeLine ∧ ∀ p, H p = none → spInit C (ws ++ [V.ref p]) (upd H p (.tup rest)) Q E
def spPlain (C : Addr) : Sp := fun vs H Q _ => vs = [] ∧ ∀ (r : Addr) (H' : Hp), ClsW C H' r [] → Same H H' → Q (.ref r) H'
theorem RowsAt.app {H : Hp} {ts1 ts2 : List Addr} {rs1 rs2 : List Row} (h1 : RowsAt H ts1 rs1) (h2 : RowsAt H ts2 rs2) : RowsAt H (ts1 ++ ts2) (rs1 ++ rs2) := by
  refine ⟨by simp [h1.1, h2.1], fun i t r a b => ?_⟩
  by_cases hi : i < ts1.length
  · rw [List.getElem?_append_left hi] at a
    rw [List.getElem?_append_left (by rw [← h1.1]; exact hi)] at b
    exact h1.2 i t r a b
  · rw [List.getElem?_append_right (by omega)] at a
    rw [List.getElem?_append_right (by have := h1.1; omega), ← h1.1] at b
    exact h2.2 _ t r a b
/-- what the making of Classes of rows asks -/
theorem initR {C : Addr} {H : Hp} {ts : List Addr} {rs : List Row} {Q : VK} {E : XK} (R : RowsAt H ts rs) (g : Good rs) (h30 : rs.length ≤ 30) (k : ∀ (r : Addr) (H' : Hp), ClsW C H' r rs → Same H H' → Q (.ref r) H') :
    ∀ x dx, H x = none → H dx = none → dx ≠ x → spInitR C (V.ref x :: ts.map V.ref) (upd (upd H dx (.own x)) x (.ins C dx [])) (fun v H2 => v = .non ∧ Q (.ref x) H2) E := by
  intro x dx nx ndx ne
  refine ⟨[V.ref x], _, rfl, rfl, ?_, fun pt hpt => ?_⟩
  · rw [List.length_map, R.1]; show _ ≤ 16777216; omega
  have s1 : Same H (upd (upd H dx (.own x)) x (.ins C dx [])) := ((Same.refl H).put ndx).put nx
  have s2 : Same H (upd (upd (upd H dx (.own x)) x (.ins C dx [])) pt (.tup (ts.map V.ref))) := s1.put (s1.free hpt)
  exact ⟨x, dx, pt, ts, rs, rfl, by rw [upd_ne (ne_of_none upd_same hpt), upd_same], upd_same, R.mono fun b r e => s2 b _ e, g, h30, fun H' cl kp => ⟨rfl, k x H' cl fun b o e => kp b o (s2 b o e) (ne_of_none e nx)⟩⟩
theorem wr_bind (kV doc pm : Value) (an : Option Addr) (cdv ct : Value) : ∀ us rest : List Value, us.length = ["self"].length → bindArgs (PySem.W.fnOf "with_rows" "Classes.with_rows" (defArgs sWR) (defBody sWR) (defScope sWR) .none kV doc pm an cdv ct) ⟨us ++ rest, []⟩ = (newTuple rest >>= fun t => pure (([("self" : Str)]).zip us ++ [(("rows" : Str), t)])) :=
  StX.bind_star1 (B := fun l => bindArgs (PySem.W.fnOf "with_rows" "Classes.with_rows" (defArgs sWR) (defBody sWR) (defScope sWR) .none kV doc pm an cdv ct) ⟨l, []⟩) (fun a => rfl) (fun a r rs => rfl)
section
variable {P : Program} {w : World} {K : PySem.W.Frag} {mg : Str → Option Value} {base : Heap}
theorem scLenC : FnScope ["self"] ["self"] (defScope sLen) := ⟨rfl, rfl, rfl, by decide +kernel, rfl, by decide +kernel, by decide +kernel⟩
theorem scCo : FnScope ["self", "x"] ["self", "x"] (defScope sCo) := ⟨rfl, rfl, rfl, by decide +kernel, rfl, by decide +kernel, by decide +kernel⟩
theorem scEq : FnScope ["self", "other"] ["self", "other"] (defScope sEq) := ⟨rfl, rfl, rfl, by decide +kernel, rfl, by decide +kernel, by decide +kernel⟩
theorem scWR : FnScope ["self", "rows", "both"] ["self", "rows"] (defScope sWR) := ⟨rfl, rfl, rfl, by decide +kernel, rfl, by decide +kernel, by decide +kernel⟩
theorem scPlain : FnScope [] [] (defScope sPlain) := ⟨rfl, rfl, rfl, by decide +kernel, rfl, by decide +kernel, by decide +kernel⟩
theorem ok_lenC {f C : Addr} {fd : FuncData} (F : Fun K "__len__" "Classes.__len__" sLen f fd) (Y : Txt K mg C) (T : Bi mg) : FnOk P w K mg base CX0 1 f fd ["self"] (spLenC C) := by
  refine F.ok scLenC (fun vs H Q E h => ?_) (fun cdv A outer s H vs Q E hr h => ?_)
  · obtain ⟨p, rs, rfl, _⟩ := h
    rfl
  · obtain ⟨p, rs, rfl, cw, k⟩ := h
    refine ⟨_, pss_one (ps_ret (pe_callB call_len_seq (by rfl) T.len PySem.boot_len (pa_cons (pe_fld (pv 0) rfl) pa_nil))), ?_⟩
    obtain ⟨dx, r, n, l, kvs, ts, h1, _, _, h4, _, _⟩ := cw
    refine ⟨_, rfl, p, C, dx, _, _, rfl, h1, Y.cl, Y.nN, flds_names _ _ _, n, _, rfl, .inr (SqT.of h4), ?_⟩
    rw [List.length_map, keys_ups]
    have e : (base0 ++ rs.map (·.1)).length = rs.length + 2 := by
      rw [List.length_append, List.length_map]
      show 2 + rs.length = rs.length + 2
      omega
    rw [e]
    exact k
theorem ok_co {f C : Addr} {fd : FuncData} (F : Fun K "__contains__" "Classes.__contains__" sCo f fd) (Y : Txt K mg C) (T : Bi mg) : FnOk P w K mg base CX0 1 f fd ["self", "x"] (spCo K C) := by
  refine F.ok scCo (fun vs H Q E h => ?_) (fun cdv A outer s H vs Q E hr h => ?_)
  · obtain ⟨p, x, rs, rfl, _⟩ := h
    rfl
  · obtain ⟨p, x, rs, rfl, cw, k⟩ := h
    refine ⟨_, pss_one (ps_ret (pe_and (pe_callB call_isi (by rfl) T.isinstance (by decide +kernel) (pa_cons (pv 1) (pa_cons (pe_bltn (v := .ty "str") (by rfl) T.str (by decide +kernel) rfl) pa_nil))) (pe_one (pe_cmpR op_in_seq (pv 1) (pe_fld (pv 0) rfl) rfl)))), ?_⟩
    obtain ⟨dx, r, n, l, kvs, ts, h1, _, _, h4, _, _⟩ := cw
    rcases k with ⟨y, rfl, k⟩ | ⟨t, ht, hk, k⟩
    · refine ⟨_, rfl, _, _, _, _, true, rfl, .ty _, .base (.str y), kit_ty (by decide +kernel), _, rfl, ?_⟩
      refine iteT ⟨_, rfl, _, rfl, p, C, dx, _, _, rfl, h1, Y.cl, Y.nN, flds_names _ _ _, n, _, rfl, .inr (SqT.of h4), rfl, flat_strs _, ?_⟩
      rw [if_neg Bool.false_ne_true, inV_strs]
      exact k
    · exact ⟨_, rfl, _, _, _, _, false, rfl, .ty _, ht, hk, _, rfl, iteF k⟩
theorem ok_eq {f C : Addr} {fd : FuncData} (F : Fun K "__eq__" "Classes.__eq__" sEq f fd) (Y : Txt K mg C) (T : Bi mg) (O : Own K C) : FnOk P w K mg base CX0 1 f fd ["self", "other"] (spEqC K C) := by
  refine F.ok scEq (fun vs H Q E h => ?_) (fun cdv A outer s H vs Q E hr h => ?_)
  · obtain ⟨p, x, rs, rfl, _⟩ := h
    rfl
  · obtain ⟨p, x, rs, rfl, cw, fit, k⟩ := h
    refine ⟨_, pss_one (ps_ret (pe_and (pe_callB call_isi (by rfl) T.isinstance (by decide +kernel) (pa_cons (pv 1) (pa_cons (pe_glob (v := .ref C) rfl Y.mgC rfl) pa_nil))) (pe_one (pe_cmpR (op_eqD hr.units) (pe_fld (pv 0) rfl) (pe_fld (pv 1) rfl) (nomark _))))), ?_⟩
    rcases k with ⟨q, qs, rfl, cw2, fit2, k⟩ | ⟨t, ht, hk, k⟩
    · refine ⟨_, rfl, _, _, _, _, true, rfl, .own C, cw2.ty Y.cl O, kit_own C, _, rfl, ?_⟩
      obtain ⟨dx, r, n, l, kvs, ts, h1, _, _, _, h5, h6⟩ := cw
      obtain ⟨dy, r2, n2, l2, kvs2, ts2, g1, _, _, _, g5, g6⟩ := cw2
      refine iteT ⟨_, rfl, p, C, dx, _, _, rfl, h1, Y.cl, Y.nR, flds_rows _ _ _, _, rfl, q, C, dy, _, _, rfl, g1, Y.cl, Y.nR, flds_rows _ _ _, rowsD rs, rowsD qs, .tup (SqT.of h5) (rows_dp K rs ts h6), .tup (SqT.of g5) (rows_dp K qs ts2 g6), rowsD_shaped fit, rowsD_shaped fit2, ?_⟩
      rw [rowsD_eqv]
      exact k
    · exact ⟨_, rfl, _, _, _, _, false, rfl, .own C, ht, hk, _, rfl, iteF k⟩
theorem ok_wr {f C fI : Addr} {fd : FuncData} (F : Fun K "with_rows" "Classes.with_rows" sWR f fd) (Y : Txt K mg C) (M : Mk K C fI) (GI : FnR P w K mg base CX0 4 fI (spInitR C)) : FnR P w K mg base CX0 6 f (spWRr C) := by
  obtain ⟨oc, od, kV, doc, pm, an, cdv, ct, osl, rfl, lk, hcd⟩ := F.ex
  refine StX.fn_star (ps := ["self"]) (pv := "rows") lk hcd scWR StX.cxUp_none (wr_bind kV doc pm an cdv ct) fun A outer s H vs Q E hr h => ?_
  obtain ⟨p, t, rs, qs, ts, rfl, cw, ht, R, g, h30, k⟩ := h
  suffices hs : ∃ tt, PSs (cxOf CX0 P w K mg base ["self", "rows", "both"] "Classes.with_rows" (defScope sWR) f cdv A outer s H E).nox (defBody sWR) tt ∧ tt { nx := fun _ H' => Q .non H', rt := Q } (L2.start ["self", "rows", "both"] [V.ref p, V.ref t]) H by
    obtain ⟨tt, h1, h2⟩ := hs
    exact ⟨tt, h1.nox, h2⟩
  refine ⟨_, pss_cons (ps_set (i := 2) scWR.nd rfl (Or.inl rfl) (pe_op op_cat2 (pe_fld (pv 0) rfl) (pv 1))) (pss_one (ps_ret (pe_makeSG M GI hr (by rfl) Y.mgC pass0 (pv 2)))), ?_⟩
  obtain ⟨dx, r, n, l, kvs, ts1, h1, _, _, _, h5, h6⟩ := cw
  rw [List.length_append] at h30
  refine ⟨_, rfl, p, C, dx, _, _, rfl, h1, Y.cl, Y.nR, flds_rows _ _ _, _, rfl, r, t, _, _, rfl, rfl, h5, ht, ?_, fun b H1 s1 hb => ?_⟩
  · rw [List.length_map, List.length_map, h6.1, R.1]; show _ ≤ 16777216; omega
  refine ⟨_, rfl, b, _, rfl, .inl (SqT.of hb), ?_⟩
  rw [← List.map_append]
  exact initR ((h6.app R).mono fun q r e => s1 q _ e) g (by rw [List.length_append]; omega) fun r' H' cl s2 => k r' H' cl (s1.trans s2)
theorem ok_plain {f C fI : Addr} {fd : FuncData} (F : Fun K "plain" "Classes.plain" sPlain f fd) (Y : Txt K mg C) (M : Mk K C fI) (GI : FnR P w K mg base CX0 4 fI (spInitR C)) : FnOk P w K mg base CX0 6 f fd [] (spPlain C) := by
  refine F.ok scPlain (fun vs H Q E h => ?_) (fun cdv A outer s H vs Q E hr h => ?_)
  · obtain ⟨rfl, _⟩ := h
    rfl
  · obtain ⟨rfl, k⟩ := h
    refine ⟨_, pss_one (ps_ret (pe_makeR0 M GI hr (by rfl) Y.mgC pass0)), ?_⟩
    exact initR (ts := []) (rowsAt_nil H) good_nil (by show 0 ≤ 30; decide) k
end
end K2
end
section
set_option Elab.async false
set_option maxRecDepth 100000
set_option linter.all false
namespace K2
open PySem L2
abbrev sNew : Stmt := top 26
abbrev nNew : List Str := ["_law_pen_here", "_law_lines", "_law_way", "_law_built", "_law_at"]
theorem wrR {C b : Addr} {H : Hp} {ts : List Addr} {rs qs : List Row} {Q : VK} {E : XK} (cw : ClsW C H b rs) (R : RowsAt H ts qs) (g : Good (rs ++ qs)) (h30 : (rs ++ qs).length ≤ 30) (k : ∀ (r : Addr) (H' : Hp), ClsW C H' r (rs ++ qs) → Same H H' → Q (.ref r) H') :
    spWRr C (V.ref b :: ts.map V.ref) H Q E := by
  have hl := h30
  rw [List.length_append] at hl
  refine ⟨[V.ref b], _, rfl, rfl, ?_, fun pt hpt => ?_⟩
  · rw [List.length_map, R.1]; show _ ≤ 16777216; omega
  have s1 : Same H (upd H pt (.tup (ts.map V.ref))) := (Same.refl H).put hpt
  exact ⟨b, pt, rs, qs, ts, rfl, cw.same s1, upd_same, R.mono fun q r e => s1 q _ e, g, h30, fun r H' cl s2 => k r H' cl (s1.trans s2)⟩
theorem init_facts {C : Addr} {H : Hp} {x dx pt : Addr} {xs : List V} (nx : H x = none) (ndx : H dx = none) (hpt : (upd (upd H dx (.own x)) x (.ins C dx [])) pt = none) :
    Same H (upd (upd (upd H dx (.own x)) x (.ins C dx [])) pt (.tup xs)) ∧ (upd (upd (upd H dx (.own x)) x (.ins C dx [])) pt (.tup xs)) x = some (.ins C dx []) := by
  have s1 : Same H (upd (upd H dx (.own x)) x (.ins C dx [])) := ((Same.refl H).put ndx).put nx
  exact ⟨s1.put (s1.free hpt), by rw [upd_ne (ne_of_none upd_same hpt), upd_same]⟩
def spNew (C : Addr) : Sp := fun vs H Q _ => ∃ (p c l : Addr) (ns : List Int) (n : Nat) (ts : List Addr) (rs : List Row), vs = [.ref p, .ref l] ∧ Pen H p c ns n ∧ n + 100 ≤ 100000 ∧ H l = some (.lst (ts.map V.ref)) ∧ RowsAt H ts rs ∧ Good rs ∧ rs.length ≤ 30 ∧
  ∀ (r : Addr) (H' : Hp), ClsW C H' r rs → Keep p H H' → Pen H' p c ns (n + 40) → Q (.ref r) H'
theorem RowsAt.get {H : Hp} {ts : List Addr} {rs : List Row} (R : RowsAt H ts rs) {i : Nat} (h : i < rs.length) : ∃ t r, ts[i]? = some t ∧ rs[i]? = some r ∧ H t = some (rowO r) := by
  have hi : i < ts.length := by rw [R.1]; exact h
  exact ⟨ts[i], rs[i], List.getElem?_eq_getElem hi, List.getElem?_eq_getElem h, R.2 i _ _ (List.getElem?_eq_getElem hi) (List.getElem?_eq_getElem h)⟩
theorem RowsAt.one {H : Hp} {t : Addr} {r : Row} (h : H t = some (rowO r)) : RowsAt H [t] [r] := by
  have := (rowsAt_nil H).snoc h
  simpa using this
theorem good_take {rs : List Row} (g : Good rs) (m : Nat) : Good (rs.take m) := by
  intro i r h
  have hi : i < (rs.take m).length := (List.getElem?_eq_some_iff.mp h).1
  rw [List.length_take] at hi
  rw [List.getElem?_take, if_pos (by omega)] at h
  have := g i r h
  unfold knownAt at this ⊢
  rwa [List.take_take, Nat.min_eq_left (by omega)]
section
variable {P : Program} {w : World} {K : PySem.W.Frag} {mg : Str → Option Value} {base : Heap}
theorem scNew : FnScope nNew ["_law_pen_here", "_law_lines"] (defScope sNew) := ⟨rfl, rfl, rfl, by decide +kernel, rfl, by decide +kernel, by decide +kernel⟩
theorem ok_new {f fD fM fI fWR pM C : Addr} {mc : Value} {fd fdD fdM : FuncData} (F : Fun K "_law_new" "_law_new" sNew f fd) (T : Bi mg) (tMin : mg "min" = none) (Y : Txt K mg C)
    (D : Df K mg "_law_draw" sDraw fD fdD ["_law_pen_here", "_law_many"]) (GD : FnOk P w K mg base CX0 1 fD fdD ["_law_pen_here", "_law_many"] spDraw) (M : Mk K C fI) (GI : FnR P w K mg base CX0 4 fI (spInitR C))
    (mWR : Meth K C "with_rows" fWR) (GWR : FnR P w K mg base CX0 6 fWR (spWRr C))
    (cR : ClX.CRead K C mc) (cM : ClX.CMet K C mc "made" pM fM) (GM : FnOk P w K mg base CX0 6 fM fdM ["cls", "rows"] (spMade C)) (bM : Binds K fdM ["cls", "rows"] []) (kM : KBn K fdM ["cls", "rows"] 1 ["rows"] (fun us ws => us ++ ws) (fun vs zs => vs ++ zs)) :
    FnOk P w K mg base CX0 7 f fd ["_law_pen_here", "_law_lines"] (spNew C) := by
  refine F.ok scNew (fun vs H Q E h => ?_) (fun cdv A outer s H vs Q E hr h => ?_)
  · obtain ⟨p, c, l, ns, n, ts, rs, rfl, _⟩ := h
    rfl
  · obtain ⟨p, c, l, ns, n, ts, rs, rfl, P0, hn, hl, R, g, h30, k⟩ := h
    have hr1 : Room 1 _ := hr.mono (by decide)
    have hr5 : Room 5 _ := hr.mono (by decide)
    refine ⟨_, (pss_cons (ps_set (i := 2) scNew.nd rfl (Or.inl rfl) (pe_call GD hr1 (by rfl) D.m D.F.kp D.b .nil pass0 (pa_cons (pv 0) (pa_cons pe_int pa_nil))))
      (pss_cons (ps_if (pt_cmpR op_eq (pv 2) pe_int (nomark _))
      (pss_one (ps_ret (ClX.pe_cmeth (pe_glob (v := .ref C) rfl Y.mgC rfl) cR cM (GM.raw bM .nil) hr pass0 (pa_cons (pe_callTy call_list_of (by rfl) T.list (by decide +kernel) (pa_cons (pv 1) pa_nil)) pa_nil))))
      pss_nil)
      (pss_cons (ps_if (pt_cmpR op_eq (pv 2) pe_int (nomark _))
      (pss_one (ps_ret (pe_cmethK (pe_glob (v := .ref C) rfl Y.mgC rfl) cR cM GM hr kM pass0 (pk_cons (pe_callTy call_tuple_of (by rfl) T.tuple (by decide +kernel) (pa_cons (pv 1) pa_nil)) pk_nil))))
      pss_nil)
      (pss_cons (ps_set (i := 3) scNew.nd rfl (Or.inl rfl) (pe_makeR0 M GI hr5 (by rfl) Y.mgC pass0))
      (pss_cons (ps_if (PW.pt (pw_and (pt_cmpR op_eq (pv 2) pe_int (nomark _)) (pw_and1 (pt_cmpR op_gt (pe_callB call_len_seq (by rfl) T.len PySem.boot_len (pa_cons (pv 1) pa_nil)) pe_int (nomark _)))))
      (pss_one (ps_set (i := 3) scNew.nd rfl (Or.inl rfl) (pe_ifExp (pt_cmpR op_eq (pe_callB call_len_seq (by rfl) T.len PySem.boot_len (pa_cons (pv 1) pa_nil)) pe_int (nomark _)) (StX.pe_makeR M GI hr5 (by rfl) Y.mgC pass0  (pa_cons (pe_ix ix_list (pv 1) pe_int (fun _ _ => rfl)) pa_nil)) (StX.pe_makeR M GI hr5 (by rfl) Y.mgC pass0  (pa_cons (pe_ix ix_list (pv 1) pe_int (fun _ _ => rfl)) (pa_cons (pe_ix ix_list (pv 1) pe_int (fun _ _ => rfl)) pa_nil))))))
      pss_nil)
      (pss_cons (ps_set (i := 4) scNew.nd rfl (Or.inl rfl) (pe_op op_mul (pe_callB (call_min2 rfl) (by rfl) tMin (by decide +kernel) (pa_cons pe_int (pa_cons (pe_callB call_len_seq (by rfl) T.len PySem.boot_len (pa_cons (pv 1) pa_nil)) pa_nil))) (pe_callTy call_int1 (by rfl) T.int (by decide +kernel) (pa_cons (pe_cmpR op_eq (pv 2) pe_int (nomark _)) pa_nil))))
      (pss_cons (ps_while PassesOwn.never (pt_cmpR op_lt (pv 4) (pe_callB call_len_seq (by rfl) T.len PySem.boot_len (pa_cons (pv 1) pa_nil)) (nomark _))
      (pss_one (ps_if (PW.pt (pw_or (pt_cmpR op_eq (pe_call GD hr1 (by rfl) D.m D.F.kp D.b .nil pass0 (pa_cons (pv 0) (pa_cons pe_int pa_nil))) pe_int (nomark _)) (pw_or1 (pt_cmpR op_eq (pe_op op_add (pv 4) pe_int) (pe_callB call_len_seq (by rfl) T.len PySem.boot_len (pa_cons (pv 1) pa_nil)) (nomark _)))))
        (pss_cons (ps_set (i := 3) scNew.nd rfl (Or.inl rfl) (L2.pe_methR (pv 3) Y.cl mWR GWR hr pass0 (pa_cons (pe_ix ix_list (pv 1) (pv 4) (fun _ _ => rfl)) pa_nil)))
          (pss_one (ps_set (i := 4) scNew.nd rfl (Or.inl rfl) (pe_op op_add (pv 4) pe_int))))
        (pss_cons (ps_set (i := 3) scNew.nd rfl (Or.inl rfl) (L2.pe_methR (pv 3) Y.cl mWR GWR hr pass0 (pa_cons (pe_ix ix_list (pv 1) (pv 4) (fun _ _ => rfl)) (pa_cons (pe_ix ix_list (pv 1) (pe_op op_add (pv 4) pe_int) (fun _ _ => rfl)) pa_nil))))
          (pss_one (ps_set (i := 4) scNew.nd rfl (Or.inl rfl) (pe_op op_add (pv 4) pe_int)))))))
      (pss_one (ps_ret (pv 3)))))))))), ?_⟩
    refine ⟨_, rfl, p, c, ns, n, _, rfl, P0, by omega, by decide, by decide, fun wv H1 w0 w1 k1 P1 => ?_⟩
    have nl := P0.refs_ne hl
    have hl1 := k1 l _ hl nl
    have R1 := R.keep P0 k1
    have tl : ts.length = rs.length := R.1
    refine ⟨_, rfl, rfl, _, rfl, ite2 (fun hw => ?_) (fun hw => ?_)⟩
    · refine ⟨rfl, _, rfl, l, _, rfl, .inl (SqL.of hl1), fun q hq => ?_⟩
      have s1 : Same H1 (upd H1 q (.lst (ts.map V.ref))) := (Same.refl H1).put hq
      exact ⟨q, ts, rs, rfl, .inl upd_same, R1.mono fun b r e => s1 b _ e, g, h30, fun r H' cl s2 => k r H' cl (k1.trans (s1.trans s2).keep) ((P1.same (s1.trans s2)).mono (by omega))⟩
    refine ⟨_, rfl, rfl, _, rfl, ite2 (fun hw1 => ?_) (fun hw1 => ?_)⟩
    · refine ⟨rfl, _, rfl, l, _, rfl, .inl ⟨SqL.of hl1, fun q hq => ?_⟩⟩
      have s1 : Same H1 (upd H1 q (.tup (ts.map V.ref))) := (Same.refl H1).put hq
      exact ⟨rfl, q, ts, rs, rfl, .inr upd_same, R1.mono fun b r e => s1 b _ e, g, h30, fun r H' cl s2 => k r H' cl (k1.trans (s1.trans s2).keep) ((P1.same (s1.trans s2)).mono (by omega))⟩
    refine fun b0 dx nb ndx _ => ⟨[V.ref b0], _, rfl, rfl, (by show 0 ≤ 16777216; decide), fun pt hpt => ⟨b0, dx, pt, [], [], rfl, (init_facts nb ndx hpt).2, upd_same, RowsAt.mono (rowsAt_nil H1) (fun q r e => (init_facts nb ndx hpt).1 q _ e), good_nil, (by show 0 ≤ 30; decide), fun H2 cb0 kp => ⟨rfl, ?_⟩⟩⟩
    have s2 : Same H1 H2 := fun q o e => kp q o ((init_facts nb ndx hpt).1 q o e) (ne_of_none e nb)
    have hl2 := s2 l _ hl1
    have R2 := R1.mono fun b r e => s2 b _ e
    have lenm : (ts.map V.ref).length = rs.length := by rw [List.length_map, tl]
    refine ⟨_, rfl, rfl, _, rfl, ite2 (fun hw2 => ⟨_, rfl, l, _, rfl, .inl (SqL.of hl2), _, _, rfl, rfl, _, rfl, ite2 (fun h0 => ⟨_, rfl, l, _, rfl, .inl (SqL.of hl2), rfl, _, rfl, ite2 (fun h1 => ?b1) (fun h1 => ?b2)⟩) (fun h0 => ?b3)⟩) (fun hw2 => iteF ?b4)⟩
    case' b1 =>
      have h1 : rs.length = 1 := by
        have := V.int.inj (of_decide_eq_true h1)
        omega
      obtain ⟨t0, r0, e0, f0, _⟩ := R2.get (i := 0) (by omega)
      refine ⟨_, rfl, l, _, _, _, rfl, rfl, SqL.of hl2, atI_nat (j := 0) (by rw [List.getElem?_map, e0]; rfl), ?_⟩
      have Ra : RowsAt H2 [t0] (rs.take 1) := by
        rw [List.take_add_one, f0]
        exact RowsAt.one (R2.2 0 _ _ e0 f0)
      refine fun b0 dx nb2 ndx2 _ => ⟨[V.ref b0], _, rfl, rfl, (by show 1 ≤ 16777216; decide), fun pt hpt2 => ⟨b0, dx, pt, [t0], rs.take 1, rfl, (init_facts nb2 ndx2 hpt2).2, upd_same, RowsAt.mono Ra (fun q r e => (init_facts nb2 ndx2 hpt2).1 q _ e), good_take g 1, (by rw [List.length_take]; omega), fun H3 cb kp2 => ⟨rfl, ?_⟩⟩⟩
      have s3 : Same H2 H3 := fun q o e => kp2 q o ((init_facts nb2 ndx2 hpt2).1 q o e) (ne_of_none e nb2)
      have hl2 := s3 l _ hl2
      have R2 := R2.mono fun b r e => s3 b _ e
      have s2 := s2.trans s3
      have hj : ((1 : Nat) : Int) = (if (rs.length : Int) < 2 then (rs.length : Int) else 2) * (if decide (V.int wv = V.int 2) = true then 1 else 0) := by
        rw [if_pos (by omega), if_pos hw2, h1]
        rfl
      have hjl : 1 ≤ rs.length := by omega
      obtain ⟨j, hj, cb, hjl⟩ : ∃ j : Nat, ((j : Nat) : Int) = (if (rs.length : Int) < 2 then (rs.length : Int) else 2) * (if decide (V.int wv = V.int 2) = true then 1 else 0) ∧ ClsW C H3 b0 (rs.take j) ∧ j ≤ rs.length := ⟨1, hj, cb, hjl⟩
      obtain ⟨H2, eH2⟩ : ∃ Hq, Hq = H3 := ⟨_, rfl⟩
      subst eH2
    case' b2 =>
      have h0' : 0 < rs.length := by
        have := of_decide_eq_true h0
        omega
      have h1 : ¬ rs.length = 1 := fun e => h1 (decide_eq_true (by rw [lenm, e]; rfl))
      obtain ⟨t0, r0, e0, f0, _⟩ := R2.get (i := 0) (by omega)
      obtain ⟨t1, r1, e1, f1, _⟩ := R2.get (i := 1) (by omega)
      refine ⟨_, rfl, l, _, _, _, rfl, rfl, SqL.of hl2, atI_nat (j := 0) (by rw [List.getElem?_map, e0]; rfl), _, rfl, l, _, _, _, rfl, rfl, SqL.of hl2, atI_nat (j := 1) (by rw [List.getElem?_map, e1]; rfl), ?_⟩
      have Ra : RowsAt H2 [t0, t1] (rs.take 2) := by
        rw [List.take_add_one, f1, List.take_add_one, f0]
        exact (RowsAt.one (R2.2 0 _ _ e0 f0)).snoc (R2.2 1 _ _ e1 f1)
      refine fun b0 dx nb2 ndx2 _ => ⟨[V.ref b0], _, rfl, rfl, (by show 2 ≤ 16777216; decide), fun pt hpt2 => ⟨b0, dx, pt, [t0, t1], rs.take 2, rfl, (init_facts nb2 ndx2 hpt2).2, upd_same, RowsAt.mono Ra (fun q r e => (init_facts nb2 ndx2 hpt2).1 q _ e), good_take g 2, (by rw [List.length_take]; omega), fun H3 cb kp2 => ⟨rfl, ?_⟩⟩⟩
      have s3 : Same H2 H3 := fun q o e => kp2 q o ((init_facts nb2 ndx2 hpt2).1 q o e) (ne_of_none e nb2)
      have hl2 := s3 l _ hl2
      have R2 := R2.mono fun b r e => s3 b _ e
      have s2 := s2.trans s3
      have hj : ((2 : Nat) : Int) = (if (rs.length : Int) < 2 then (rs.length : Int) else 2) * (if decide (V.int wv = V.int 2) = true then 1 else 0) := by
        rw [if_neg (by omega), if_pos hw2]
        rfl
      have hjl : 2 ≤ rs.length := by omega
      obtain ⟨j, hj, cb, hjl⟩ : ∃ j : Nat, ((j : Nat) : Int) = (if (rs.length : Int) < 2 then (rs.length : Int) else 2) * (if decide (V.int wv = V.int 2) = true then 1 else 0) ∧ ClsW C H3 b0 (rs.take j) ∧ j ≤ rs.length := ⟨2, hj, cb, hjl⟩
      obtain ⟨H2, eH2⟩ : ∃ Hq, Hq = H3 := ⟨_, rfl⟩
      subst eH2
    case' b3 =>
      have h0' : rs.length = 0 := by
        have : ¬ (0 : Int) < ((ts.map V.ref).length : Int) := fun e => h0 (decide_eq_true e)
        omega
      have cb : ClsW C H2 b0 (rs.take 0) := cb0
      have hj : ((0 : Nat) : Int) = (if (rs.length : Int) < 2 then (rs.length : Int) else 2) * (if decide (V.int wv = V.int 2) = true then 1 else 0) := by
        rw [if_pos (by omega), h0']
        exact (Int.zero_mul _).symm
      obtain ⟨j, hj, cb, hjl⟩ : ∃ j : Nat, ((j : Nat) : Int) = (if (rs.length : Int) < 2 then (rs.length : Int) else 2) * (if decide (V.int wv = V.int 2) = true then 1 else 0) ∧ ClsW C H2 b0 (rs.take j) ∧ j ≤ rs.length := ⟨0, hj, cb, by omega⟩
    case' b4 =>
      have cb : ClsW C H2 b0 (rs.take 0) := cb0
      have hj : ((0 : Nat) : Int) = (if (rs.length : Int) < 2 then (rs.length : Int) else 2) * (if decide (V.int wv = V.int 2) = true then 1 else 0) := by
        rw [if_neg hw2]
        exact (Int.mul_zero _).symm
      obtain ⟨j, hj, cb, hjl⟩ : ∃ j : Nat, ((j : Nat) : Int) = (if (rs.length : Int) < 2 then (rs.length : Int) else 2) * (if decide (V.int wv = V.int 2) = true then 1 else 0) ∧ ClsW C H2 b0 (rs.take j) ∧ j ≤ rs.length := ⟨0, hj, cb, by omega⟩
    all_goals
      refine ⟨_, rfl, l, _, rfl, .inl (SqL.of hl2), _, _, rfl, _, rfl, rfl, .inr ⟨_, rfl, _, _, rfl, rfl, .inr ?_, ?_⟩⟩
      · split <;> exact ⟨by decide, by decide⟩
      rw [lenm]
      generalize hz9 : (fun i j : Int => V.int (i * j)) (if (rs.length : Int) < 2 then (rs.length : Int) else 2) (if decide (V.int wv = V.int 2) = true then 1 else 0) = zz
      replace hz9 : zz = .int (j : Int) := by
        rw [← hz9, hj]
      subst hz9
      clear hj
      have KA : Keep p H H2 := k1.trans s2.keep
      have PA : Pen H2 p c ns (n + 1 + j) := (P1.same s2).mono (by omega)
      refine ⟨fun m σ Hc => ∃ (u : Nat) (b : Addr) (z : Int), m = rs.length - u ∧ σ = [some (.ref p), some (.ref l), some (.int wv), some (.ref b), some (.int z)] ∧ z = (u : Int) ∧ u ≤ rs.length ∧ ClsW C Hc b (rs.take u) ∧ Keep p H Hc ∧ Pen Hc p c ns (n + 1 + u), ⟨_, j, b0, _, rfl, rfl, rfl, hjl, cb, KA, PA⟩, ?_⟩
      rintro m σ Hc ⟨u, b, z, rfl, rfl, rfl, hul, cbc, kc, Pc⟩
      have hlc := kc l _ hl nl
      have Rc := R.keep P0 kc
      refine ⟨_, rfl, _, rfl, l, _, rfl, .inl (SqL.of hlc), _, _, rfl, rfl, _, rfl, ite2 (fun hlt => ?_) (fun hge => ?_)⟩
      · have hlt : u < rs.length := by
          have := of_decide_eq_true hlt
          omega
        refine ⟨fun σ' H' => ∃ (u' : Nat) (b' : Addr) (z : Int), u < u' ∧ σ' = [some (.ref p), some (.ref l), some (.int wv), some (.ref b'), some (.int z)] ∧ z = (u' : Int) ∧ u' ≤ rs.length ∧ ClsW C H' b' (rs.take u') ∧ Keep p H H' ∧ Pen H' p c ns (n + 1 + u'),
          fun σ' H' ⟨u', b', z, h1, h2, h3, h4, h5, h6, h7⟩ => ⟨rs.length - u', by omega, u', b', z, rfl, h2, h3, h4, h5, h6, h7⟩, ?_⟩
        obtain ⟨t0, r0, e0, f0, _⟩ := Rc.get hlt
        refine ⟨_, rfl, p, c, ns, n + 1 + u, _, rfl, Pc, by omega, by decide, by decide, fun dv Hd d0 d1 kd Pd => ?_⟩
        have kcd := kc.trans kd
        have hld := kcd l _ hl nl
        have Rd := R.keep P0 kcd
        have cbd := cbc.kp kd Pc
        obtain ⟨dxb, fsb, hb1, hb2⟩ := cbd.ins
        have hb2 := hb2 "with_rows" (by decide +kernel) (by decide +kernel) (by decide +kernel)
        have it0 : (ts.map V.ref)[u]? = some (V.ref t0) := by rw [List.getElem?_map, e0]; rfl
        refine ⟨rfl, _, rfl, ite2 (fun h1 => iteT ?_) (fun h1 => ⟨_, rfl, _, _, rfl, rfl, _, rfl, l, _, rfl, .inl (SqL.of hld), rfl, _, rfl, ite2 (fun h2 => ?_) (fun h2 => ?_)⟩)⟩
        rotate_left 2
        · have hlt2 : u + 1 < rs.length := by
            have h2 : ¬ ((u : Int) + 1 = (((ts.map V.ref).length : Nat) : Int)) := fun e => h2 (decide_eq_true (congrArg V.int e))
            rw [lenm] at h2
            omega
          obtain ⟨t1, r1, e1, f1, _⟩ := Rc.get hlt2
          have it1 : (ts.map V.ref)[u + 1]? = some (V.ref t1) := by rw [List.getElem?_map, e1]; rfl
          have Ra : RowsAt Hd [t0, t1] [r0, r1] := (RowsAt.one (Rd.2 u _ _ e0 f0)).snoc (Rd.2 (u + 1) _ _ e1 f1)
          have et : rs.take (u + 2) = rs.take u ++ [r0, r1] := by rw [List.take_add_one, f1, List.take_add_one, f0, List.append_assoc]; rfl
          refine ⟨_, rfl, b, dxb, fsb, rfl, hb1, hb2, _, rfl, _, rfl, l, _, _, _, rfl, rfl, SqL.of hld, at_of rfl it0, _, rfl, _, rfl, _, _, rfl, rfl, l, _, _, _, rfl, rfl, SqL.of hld, at_of (j := u + 1) rfl it1, ?_⟩
          have g2 : Good (rs.take u ++ [r0, r1]) := by rw [← et]; exact good_take g _
          refine ⟨[V.ref b], _, rfl, rfl, (by show 2 ≤ 16777216; decide), fun pt hpt => ?_⟩
          have s1 : Same Hd (upd Hd pt (.tup [V.ref t0, V.ref t1])) := (Same.refl Hd).put hpt
          refine ⟨b, pt, rs.take u, [r0, r1], [t0, t1], rfl, cbd.same s1, upd_same, Ra.mono fun q r e => s1 q _ e, g2, by rw [← et, List.length_take]; omega, fun r H' cl s3 => ?_⟩
          rw [← et] at cl
          have s4 := s1.trans s3
          exact ⟨_, rfl, _, _, rfl, rfl, u + 2, r, _, by omega, rfl, by omega, by omega, cl, kcd.trans s4.keep, (Pd.same s4).mono (by omega)⟩
        all_goals
          have Ra : RowsAt Hd [t0] [r0] := RowsAt.one (Rd.2 u _ _ e0 f0)
          have et : rs.take (u + 1) = rs.take u ++ [r0] := by rw [List.take_add_one, f0]; rfl
          have g2 : Good (rs.take u ++ [r0]) := by rw [← et]; exact good_take g _
          refine ⟨_, rfl, b, dxb, fsb, rfl, hb1, hb2, _, rfl, _, rfl, l, _, _, _, rfl, rfl, SqL.of hld, at_of rfl it0, ?_⟩
          refine ⟨[V.ref b], _, rfl, rfl, (by show 1 ≤ 16777216; decide), fun pt hpt => ?_⟩
          have s1 : Same Hd (upd Hd pt (.tup [V.ref t0])) := (Same.refl Hd).put hpt
          refine ⟨b, pt, rs.take u, [r0], [t0], rfl, cbd.same s1, upd_same, Ra.mono fun q r e => s1 q _ e, g2, by rw [← et, List.length_take]; omega, fun r H' cl s3 => ?_⟩
          rw [← et] at cl
          have s4 := s1.trans s3
          exact ⟨_, rfl, _, _, rfl, rfl, u + 1, r, _, by omega, rfl, by omega, by omega, cl, kcd.trans s4.keep, (Pd.same s4).mono (by omega)⟩
      · have hge : u = rs.length := by
          have : ¬ (u : Int) < ((ts.map V.ref).length : Int) := fun e => hge (decide_eq_true e)
          omega
        rw [hge, List.take_length] at cbc
        exact ⟨_, rfl, k b Hc cbc kc (Pc.mono (by omega))⟩
end
end K2
end
section
set_option Elab.async false
set_option maxRecDepth 100000
set_option linter.all false
namespace K2
open PySem L2 PySem.Spec PyProof.Rows
theorem pick_all {α : Type} : ∀ l : List α, (List.range l.length).filterMap (fun k => l[k]?) = l
  | [] => rfl
  | a :: l => by
    rw [List.length_cons, List.range_succ_eq_map, List.filterMap_cons]
    simp only [List.getElem?_cons_zero, List.filterMap_map]
    congr 1
    have e : ((fun k => (a :: l)[k]?) ∘ Nat.succ) = fun k => l[k]? := by
      funext k
      simp
    rw [e]
    exact pick_all l
theorem pick_rev (xs : Array Value) : (List.range xs.size).filterMap (fun (k : Nat) => xs[(((xs.size : Int) - 1) + (k : Int) * (-1)).toNat]?) = xs.toList.reverse := by
  have h := pick_all xs.toList.reverse
  rw [List.length_reverse, Array.length_toList] at h
  refine Eq.trans ?_ h
  have cong : ∀ (l : List Nat) (f g : Nat → Option Value), (∀ k ∈ l, f k = g k) → l.filterMap f = l.filterMap g := by
    intro l f g
    induction l with
    | nil => intro _; rfl
    | cons a l ih =>
      intro q
      rw [List.filterMap_cons, List.filterMap_cons, q a List.mem_cons_self, ih fun k hk => q k (List.mem_cons_of_mem _ hk)]
  refine cong _ _ _ fun k hk => ?_
  have hk := List.mem_range.mp hk
  rw [List.getElem?_reverse (by rw [Array.length_toList]; exact hk), Array.length_toList, Array.getElem?_toList]
  congr 1
  omega
section
variable {prog : Program} {w : World} {A : Around} {E : Value → Shared → Prop} {s : Shared}
theorem rev_applied {sl : Addr} {vs : Value} {n : Nat} {Q : Int × Int × Nat → Shared → Prop} (hn : 0 < n) (hs : s.heap.IsSliceOf sl .none .none vs) (ps : IsPart vs (some (-1)))
    (h : Q (((n : Int) - 1), -1, n) s) : wpAny (model prog w) A (Builtin.Slice.sliceApplied (.ref sl) (pure (n : Int))) Q E s := by
  obtain ⟨os, hos, hcs, hds⟩ := id hs
  unfold Builtin.Slice.sliceApplied Builtin.Slice.sliceFields
  refine wpAny_bind (wpAny_bind (wpAny_field hos hds (x := .none) rfl (wpAny_bind (wpAny_field hos hds (x := .none) rfl (wpAny_bind (wpAny_field hos hds (x := vs) rfl (wpAny_pure ?_)))))))
  refine wpAny_bind (HT.slicePart_ ps ?_)
  show wpAny _ _ (if ((-1 : Int) == 0) = true then _ else _) _ _ s
  rw [if_neg (by decide)]
  refine wpAny_bind (slicePart_none (wpAny_bind (slicePart_none (wpAny_bind (wpAny_pure ?_)))))
  have e : Builtin.Slice.slicePlaces ((n : Int) - 1) (-1) (-1) = n := by
    unfold Builtin.Slice.slicePlaces
    rw [if_neg (by decide), if_pos (by omega)]
    have : ((n : Int) - 1 - -1 - 1) / (- -1) + 1 = n := by
      rw [show (- -1 : Int) = 1 from rfl, Int.ediv_one]
      omega
    rw [this]
    rfl
  show wpAny _ _ (pure (((n : Int) - 1), (-1 : Int), Builtin.Slice.slicePlaces ((n : Int) - 1) (-1) (-1))) _ _ s
  rw [e]
  exact wpAny_pure h
theorem rev_tuple {t sl : Addr} {items : Array Value} {vs : Value} {Q : Value → Shared → Prop} (hn : 0 < items.size) (ht : IsTup s.heap t items) (hs : s.heap.IsSliceOf sl .none .none vs) (ps : IsPart vs (some (-1)))
    (h : Q (.ref s.heap.objs.size) { s with heap := s.heap.push { cls := .type "tuple", data := .seq items.toList.reverse.toArray } }) (hsz : items.size ≤ sizeLine) : wpAny (model prog w) A (getItem (.ref t) (.ref sl)) Q E s := by
  have hz : sizeOk (.seq items.toList.reverse.toArray) := by
    show items.toList.reverse.toArray.size ≤ sizeLine
    rw [List.size_toArray, List.length_reverse, Array.length_toList]
    exact hsz
  obtain ⟨os, hos, hcs, hds⟩ := id hs
  have hTs : s.TypeIs (.ref sl) "slice" := ⟨os, hos, hcs⟩
  unfold getItem
  try with_reducible refine wpAny_holding ?_
  first | refine wpAny_bind (wpAny_pure ?_) | skip
  refine wpAny_bind (wpAny_sequenceKey ht.typeIs (by decide) ?_)
  refine wpAny_bind (wpAny_callSpecial?_slot (name := Str.ofString "__getitem__") ht.typeIs PyProof.Rows.slot_tuple_getitem
    (wpAny_call_entry PyProof.Rows.slot_tuple_getitem ht.typeIs entry_tuple_getitem ?_ (args_tuple_getitem _ _)))
  show wpAny _ _ (Builtin.Tuple.tupleItemsOf (.ref t) >>= _) _ _ s
  refine wpAny_bind (PyProof.Rows.tupleItemsOf_ ht ?_)
  refine wpAny_bind (wpAny_typeOf hTs ?_)
  rw [if_pos (by decide)]
  refine wpAny_bind (rev_applied hn hs ps ?_)
  have no : ¬ ((((items.size : Int) - 1) == 0 && (-1 : Int) == 1 && items.size == items.size) = true) := by simp
  show wpAny _ _ (if (((items.size : Int) - 1) == 0 && (-1 : Int) == 1 && items.size == items.size) = true then _ else _) _ _ s
  rw [if_neg no, pick_rev]
  first
    | exact wpAny_bind (m := Builtin.Tuple.tupleExact _) (wpAny_newObj_type (wpAny_pure ⟨_, rfl, wpAny_pure h⟩) hz)
    | exact wpAny_bind (m := Builtin.Tuple.tupleExact _) (wpAny_newObj_type (wpAny_bind (wpAny_pure (wpAny_pure ⟨_, rfl, wpAny_pure h⟩))) hz)
    | exact wpAny_bind (wpAny_bind (m := Builtin.Tuple.tupleExact _) (wpAny_newObj_type (wpAny_pure (wpAny_pure ⟨_, rfl, wpAny_pure h⟩)) hz))
    | exact wpAny_bind (wpAny_bind (m := Builtin.Tuple.tupleExact _) (wpAny_newObj_type (wpAny_pure ⟨_, rfl, wpAny_pure h⟩) hz))
end
/-- t[::-1] of a tuple -/
def tRevT (te : TE) : TE := fun σ H Q => te σ H fun x H1 => ∃ a xs, x = .ref a ∧ H1 a = some (.tup xs) ∧ 0 < xs.length ∧ ∀ p, H1 p = none → Q (.ref p) (upd H1 p (.tup xs.reverse))
theorem pe_revT {X : Cx} {e : Expr} {te : TE} {k : Nat} {p1 p2 p3 pos : Pos} (he : PE X e te) : PE X (.Subscript e (.Slice none none (some (.UnaryOp .USub (.Constant (.int 1) k p1) p2)) p3) pos) (tRevT te) := by
  constructor
  intro pins s σ H Q I h
  refine Subscript_ (thn (he.run pins s σ H _ I h) fun v s1 ⟨x, H1, I1, r1, a, xs, ex, hx, hn, q⟩ => ?_)
  subst ex
  cases r1
  have hst : PO X (some (.UnaryOp .USub (.Constant (.int 1) k p1) p2)) (tPart (tUn (rU fun i => .int (-i)) (tC (.int 1)))) := po_some (pe_un un_neg pe_int)
  refine wpAny_Slice (thn (po_none.run pins s1 σ H1 (fun o H2 => o = none ∧ H2 = H1) I1 ⟨rfl, rfl⟩) fun vl s2 ⟨l, H2, I2, pl, el, e2⟩ => ?_)
  subst el e2
  refine thn (po_none.run pins s2 σ H2 (fun o H3 => o = none ∧ H3 = H2) I2 ⟨rfl, rfl⟩) fun vu s3 ⟨u, H3, I3, pu, eu, e3⟩ => ?_
  subst eu e3
  refine thn (hst.run pins s3 σ H3 (fun o H4 => o = some (-1) ∧ H4 = H3) I3 ⟨1, rfl, -1, rfl, rfl, rfl⟩) fun vs s4 ⟨o, H4, I4, ps, eo, e4⟩ => ?_
  subst eo e4
  cases pl
  cases pu
  have I5 : Inv X pins σ H4 { s4 with heap := s4.heap.push { cls := .type "slice", data := .fields #[.none, .none, vs] } } := I4.kept (t' := s4.toks) fun b ob q => Heap.get?_push_of_some _ q
  obtain ⟨its, r, ht, hz⟩ := I5.tuple (SqT.of hx)
  have hlen := r.length
  show wpAny (model X.prog X.w) X.A (subscriptTail e (.Slice none none (some (.UnaryOp .USub (.Constant (.int 1) k p1) p2)) p3) (.ref a) (.ref s4.heap.objs.size)) (EP X pins σ Q) X.xe { s4 with heap := s4.heap.push { cls := .type "slice", data := .fields #[.none, .none, vs] } }
  refine tail_any (ops := [.ref a, .ref s4.heap.objs.size]) ht.typeIs (PyProof.Rows.slot_tuple_getitem.lookup) ?_ (by with_unfolding_all rfl)
  refine rev_tuple (by rw [List.size_toArray]; omega) ht (Heap.IsSliceOf.new _ .none .none vs) ps ?_ (by rw [List.size_toArray]; omega)
  refine ⟨.ref _, _, I5.laid (t' := s4.toks) (o := .tup xs.reverse) (fun b ob q => Heap.get?_push_of_some _ q) (Nat.le_refl _) ?_, rfl, q _ (I5.hok.fresh (Nat.le_refl _))⟩
  exact ⟨by rw [List.length_reverse]; exact hz, _, r.reverse, IsTup.new _ _⟩
end K2
end
section
set_option Elab.async false
set_option maxRecDepth 100000
set_option linter.all false
namespace K2
open PySem L2
abbrev sOt : Stmt := top 27
abbrev nOt : List Str := ["_law_names", "_law_last", "_law_some", "_law_one"]
theorem call_isiK' {X : Cx} {K' : PySem.W.Frag} (hK : X.K = K') : CallR X (.builtin "isinstance") (rIsi K') := by
  subst hK
  exact call_isi
/-- a value that is no text, with its type -/
inductive Nos (H : Hp) : V → String → Prop where
  | non : Nos H .non "NoneType"
  | bl (b : Bool) : Nos H (.bl b) "bool"
  | int (i : Int) : Nos H (.int i) "int"
  | tup {a : Addr} {xs : List V} (h : H a = some (.tup xs)) : Nos H (.ref a) "tuple"
  | lst {a : Addr} {xs : List V} (h : H a = some (.lst xs)) : Nos H (.ref a) "list"
  | dK {a : Addr} {kvs : List (Key × V)} (h : H a = some (.dK kvs)) : Nos H (.ref a) "dict"
theorem Nos.same {H H' : Hp} {v : V} {t : String} (h : Nos H v t) (s : Same H H') : Nos H' v t := by
  cases h with
  | non => exact .non
  | bl b => exact .bl b
  | int i => exact .int i
  | tup h => exact .tup (s _ _ h)
  | lst h => exact .lst (s _ _ h)
  | dK h => exact .dK (s _ _ h)
theorem Nos.ty {K : PySem.W.Frag} {H : Hp} {v : V} {t : String} (h : Nos H v t) : TyX K H v (.type t) := by
  cases h with
  | non => exact .base .non
  | bl b => exact .base (.bl b)
  | int i => exact .base (.int i)
  | tup h => exact .base (.tup h)
  | lst h => exact .base (.lst h)
  | dK h => exact .base (.dK h)
theorem Nos.kit {K : PySem.W.Frag} {H : Hp} {v : V} {t : String} (h : Nos H v t) : PySem.W.kitOne K (.type t) (.type "str") = some false := by
  cases h <;> exact kit_ty (by decide +kernel)
/-- a text that is none of these, or no text -/
def Oth (H : Hp) (nm : List Str) (v : V) : Prop := (∃ y, v = .str y ∧ y ∉ nm) ∨ ∃ t, Nos H v t
theorem Oth.same {H H' : Hp} {nm : List Str} {v : V} (h : Oth H nm v) (s : Same H H') : Oth H' nm v := by
  rcases h with ⟨y, e, q⟩ | ⟨t, q⟩
  · exact .inl ⟨y, e, q⟩
  · exact .inr ⟨t, q.same s⟩
def Any (H : Hp) (v : V) : Prop := (∃ y, v = .str y) ∨ ∃ t, Nos H v t
theorem Any.same {H H' : Hp} {v : V} (h : Any H v) (s : Same H H') : Any H' v := by
  rcases h with ⟨y, e⟩ | ⟨t, q⟩
  · exact .inl ⟨y, e⟩
  · exact .inr ⟨t, q.same s⟩
def spOt : Sp := fun vs H Q _ => ∃ (l : Addr) (nm : List Str), vs = [.ref l] ∧ H l = some (.lst (nm.map V.str)) ∧ nm ≠ [] ∧ nm.length ≤ 40 ∧ (∀ x ∈ nm, x.length ≤ 8) ∧
  ∀ (q : Addr) (xs : List V) (H' : Hp), H' q = some (.lst xs) → xs.length ≤ 20 → (∀ v ∈ xs, Oth H' nm v) → Same H H' → Q (.ref q) H'
section
variable {P : Program} {w : World} {K : PySem.W.Frag} {mg : Str → Option Value} {base : Heap}
theorem scOt : FnScope nOt ["_law_names"] (defScope sOt) := ⟨rfl, rfl, rfl, by decide +kernel, rfl, by decide +kernel, by decide +kernel⟩
theorem ok_ot {f : Addr} {fd : FuncData} (F : Fun K "_law_others" "_law_others" sOt f fd) (T : Bi mg) : FnOk P w K mg base CX0 1 f fd ["_law_names"] spOt := by
  refine F.ok scOt (fun vs H Q E h => ?_) (fun cdv A outer s H vs Q E hr h => ?_)
  · obtain ⟨l, nm, rfl, _⟩ := h
    rfl
  · obtain ⟨l, nm, rfl, hl, hne, h40, h8, k⟩ := h
    have hu := hu_of hr
    refine ⟨_, (pss_cons (ps_set (i := 1) scOt.nd rfl (Or.inl rfl) (pe_ix ix_list (pv 0) (pe_op op_sub (pe_callB call_len_seq (by rfl) T.len PySem.boot_len (pa_cons (pv 0) pa_nil)) pe_int) (fun _ _ => rfl)))
      (pss_cons (ps_set (i := 2) scOt.nd rfl (Or.inl rfl) (pe_lst (pa_cons pe_non (pa_cons pe_bl (pa_cons pe_int (pa_cons pe_str (pa_cons pe_str (pa_cons pe_str (pa_cons pe_str (pa_cons (pe_tup (pa_cons pe_str pa_nil)) (pa_cons (pe_lst (pa_cons pe_str pa_nil)) (pa_cons pe_dnewK (pa_cons (pe_callTy call_list_of (by rfl) T.list (by decide +kernel) (pa_cons (pv 0) pa_nil)) pa_nil)))))))))))))
      (pss_cons (ps_set (i := 2) scOt.nd rfl (Or.inl rfl) (pe_op op_cat (pv 2) (pe_lst (pa_cons (pe_slice sl_str (pv 1) po_none (po_some (pe_un un_neg pe_int))) (pa_cons (pe_slice sl_str (pv 1) (po_some pe_int) po_none) (pa_cons (pe_op op_add_str (pv 1) pe_str) (pa_cons (pe_op op_add_str pe_str (pv 1)) (pa_cons (pe_callTy call_tuple_of (by rfl) T.tuple (by decide +kernel) (pa_cons (pv 0) pa_nil)) (pa_cons (pe_tup (pa_cons (pv 1) (pa_cons pe_str pa_nil))) pa_nil)))))))))
      (pss_cons (ps_set (i := 2) scOt.nd rfl (Or.inl rfl) (pe_op op_cat (pv 2) (pe_lst (pa_cons pe_str (pa_cons pe_str (pa_cons (pe_op op_mulW (pe_op op_pow pe_int pe_int) (pe_op op_pow pe_int pe_int)) pa_nil))))))
      (pss_one (ps_ret (pe_lc (own := [("_law_one", 3)]) (g := gName 3)  rfl scOt.nd (pi_list (pv 2)) (blkOk_by (N := nOt) (sc := defScope sOt) (by decide +kernel)) (fun _ _ _ _ _ => pg_name (i := 3) scOt.nd rfl (Or.inl rfl)) (fun _ _ _ _ _ => pts_one (PW.pt (pw_or (pt_not (pt_val (pe_callB (call_isiK' (K' := K) rfl) (by rfl) T.isinstance (by decide +kernel) (pa_cons (pv 3) (pa_cons (pe_bltn (v := .ty "str") (by rfl) T.str (by decide +kernel) rfl) pa_nil))))) (pw_or1 (pt_cmpR (op_notIn_seqK (K' := K) rfl) (pv 3) (pv 0) rfl))))) (fun _ _ _ _ _ => pv 3)))))))), ?_⟩
    have hn0 : 0 < nm.length := List.length_pos_iff.mpr hne
    have hlast : nm[nm.length - 1]? = some nm[nm.length - 1] := List.getElem?_eq_getElem (by omega)
    have hll := h8 _ (List.getElem_mem (l := nm) (n := nm.length - 1) (by omega))
    generalize nm[nm.length - 1] = la at hlast hll
    have hz : la.length ≤ sizeLine := by show _ ≤ 16777216; omega
    refine ⟨_, rfl, _, rfl, l, _, rfl, .inl (SqL.of hl), _, _, rfl, rfl, l, _, _, _, rfl, rfl, SqL.of hl, at_of (j := nm.length - 1) ?_ (by rw [List.getElem?_map, hlast]; rfl), ?_⟩
    · rw [List.length_map]
      show (nm.length : Int) - 1 = ((nm.length - 1 : Nat) : Int)
      omega
    -- the first eleven
    refine ⟨(by show 1 ≤ sizeLine; decide), fun t1 ht1 => ?_⟩
    have s1 : Same H (upd H t1 (.tup [V.str (Str.ofString "error")])) := (Same.refl H).put ht1
    have e1 : (upd H t1 (.tup [V.str (Str.ofString "error")])) t1 = some (.tup [V.str (Str.ofString "error")]) := upd_same
    generalize upd H t1 (.tup [V.str (Str.ofString "error")]) = H1 at s1 e1 ⊢
    refine ⟨(by show 1 ≤ sizeLine; decide), fun l1 hl1 => ?_⟩
    have s2 : Same H1 (upd H1 l1 (.lst [V.str (Str.ofString "vacant")])) := (Same.refl H1).put hl1
    have e2 : (upd H1 l1 (.lst [V.str (Str.ofString "vacant")])) l1 = some (.lst [V.str (Str.ofString "vacant")]) := upd_same
    generalize upd H1 l1 (.lst [V.str (Str.ofString "vacant")]) = H2 at s2 e2 ⊢
    refine fun d1 hd1 => ?_
    have s3 : Same H2 (upd H2 d1 (.dK [])) := (Same.refl H2).put hd1
    have e3 : (upd H2 d1 (.dK [])) d1 = some (.dK []) := upd_same
    generalize upd H2 d1 (.dK []) = H3 at s3 e3 ⊢
    have s03 := (s1.trans s2).trans s3
    refine ⟨_, rfl, l, _, rfl, .inl (SqL.of (s03 l _ hl)), fun l2 hl2 => ?_⟩
    have s4 : Same H3 (upd H3 l2 (.lst (nm.map V.str))) := (Same.refl H3).put hl2
    have e4 : (upd H3 l2 (.lst (nm.map V.str))) l2 = some (.lst (nm.map V.str)) := upd_same
    generalize upd H3 l2 (.lst (nm.map V.str)) = H4 at s4 e4 ⊢
    refine ⟨(by show 11 ≤ sizeLine; decide), fun q1 hq1 => ?_⟩
    have A1 : ∀ v ∈ ([V.non, V.bl true, V.int 0, V.str (Str.ofString ""), V.str (Str.ofString "Error"), V.str (Str.ofString " error"), V.str (Str.ofString "error "), V.ref t1, V.ref l1, V.ref d1, V.ref l2] : List V), Any H4 v := by
      intro v hv
      simp only [List.mem_cons, List.not_mem_nil, or_false] at hv
      rcases hv with rfl | rfl | rfl | rfl | rfl | rfl | rfl | rfl | rfl | rfl | rfl
      · exact .inr ⟨_, .non⟩
      · exact .inr ⟨_, .bl _⟩
      · exact .inr ⟨_, .int _⟩
      · exact .inl ⟨_, rfl⟩
      · exact .inl ⟨_, rfl⟩
      · exact .inl ⟨_, rfl⟩
      · exact .inl ⟨_, rfl⟩
      · exact .inr ⟨_, (Nos.tup e1).same ((s2.trans s3).trans s4)⟩
      · exact .inr ⟨_, (Nos.lst e2).same (s3.trans s4)⟩
      · exact .inr ⟨_, (Nos.dK e3).same s4⟩
      · exact .inr ⟨_, Nos.lst e4⟩
    have s04 := s03.trans s4
    generalize hL1 : ([V.non, V.bl true, V.int 0, V.str (Str.ofString ""), V.str (Str.ofString "Error"), V.str (Str.ofString " error"), V.str (Str.ofString "error "), V.ref t1, V.ref l1, V.ref d1, V.ref l2] : List V) = L1 at A1 ⊢
    have n1 : L1.length = 11 := by rw [← hL1]; rfl
    have s5 : Same H4 (upd H4 q1 (.lst L1)) := (Same.refl H4).put hq1
    have e5 : (upd H4 q1 (.lst L1)) q1 = some (.lst L1) := upd_same
    generalize upd H4 q1 (.lst L1) = H5 at s5 e5 ⊢
    have s05 := s04.trans s5
    -- six more
    refine ⟨_, rfl, _, rfl, _, rfl, _, rfl, _, rfl, hz, _, rfl, _, rfl, _, rfl, hz, _, rfl, _, _, rfl, rfl, ?_, _, rfl, _, _, rfl, rfl, ?_, _, rfl, l, _, rfl, .inl ⟨SqL.of (s05 l _ hl), fun t2 ht2 => ?_⟩⟩
    · show la.length + 1 ≤ 16777216; omega
    · show 5 + la.length ≤ 16777216; omega
    have s6 : Same H5 (upd H5 t2 (.tup (nm.map V.str))) := (Same.refl H5).put ht2
    have e6 : (upd H5 t2 (.tup (nm.map V.str))) t2 = some (.tup (nm.map V.str)) := upd_same
    generalize upd H5 t2 (.tup (nm.map V.str)) = H6 at s6 e6 ⊢
    refine ⟨_, rfl, (by show 2 ≤ sizeLine; decide), fun t3 ht3 => ?_⟩
    have s7 : Same H6 (upd H6 t3 (.tup [V.str la, V.str (Str.ofString "error")])) := (Same.refl H6).put ht3
    have e7 : (upd H6 t3 (.tup [V.str la, V.str (Str.ofString "error")])) t3 = some (.tup [V.str la, V.str (Str.ofString "error")]) := upd_same
    generalize upd H6 t3 (.tup [V.str la, V.str (Str.ofString "error")]) = H7 at s7 e7 ⊢
    refine ⟨(by show 6 ≤ sizeLine; decide), fun q2 hq2 => ?_⟩
    generalize hL2 : ([V.str (cutS la none (some (-1))), V.str (cutS la (some 1) none), V.str (la ++ Str.ofString "x"), V.str (Str.ofString "error" ++ la), V.ref t2, V.ref t3] : List V) = L2'
    have A2 : ∀ v ∈ L2', Any H7 v := by
      intro v hv
      rw [← hL2] at hv
      simp only [List.mem_cons, List.not_mem_nil, or_false] at hv
      rcases hv with rfl | rfl | rfl | rfl | rfl | rfl
      · exact .inl ⟨_, rfl⟩
      · exact .inl ⟨_, rfl⟩
      · exact .inl ⟨_, rfl⟩
      · exact .inl ⟨_, rfl⟩
      · exact .inr ⟨_, (Nos.tup e6).same s7⟩
      · exact .inr ⟨_, Nos.tup e7⟩
    have n2 : L2'.length = 6 := by rw [← hL2]; rfl
    have s8 : Same H7 (upd H7 q2 (.lst L2')) := (Same.refl H7).put hq2
    have e8 : (upd H7 q2 (.lst L2')) q2 = some (.lst L2') := upd_same
    generalize upd H7 q2 (.lst L2') = H8 at s8 e8 ⊢
    have s58 := (s6.trans s7).trans s8
    refine ⟨q1, q2, L1, L2', rfl, rfl, s58 q1 _ e5, e8, by show _ ≤ 16777216; omega, fun q3 hq3 => ?_⟩
    have A3 : ∀ v ∈ L1 ++ L2', Any H8 v := fun v hv => by
      rcases List.mem_append.mp hv with hv | hv
      · exact (A1 v hv).same (s5.trans s58)
      · exact (A2 v hv).same s8
    have n3 : (L1 ++ L2').length = 17 := by rw [List.length_append, n1, n2]
    generalize L1 ++ L2' = L3 at A3 n3 ⊢
    have s9 : Same H8 (upd H8 q3 (.lst L3)) := (Same.refl H8).put hq3
    have e9 : (upd H8 q3 (.lst L3)) q3 = some (.lst L3) := upd_same
    generalize upd H8 q3 (.lst L3) = H9 at s9 e9 ⊢
    -- three more
    refine ⟨_, rfl, _, _, rfl, rfl, ⟨by decide, by decide, by decide⟩, _, _, rfl, rfl, ⟨by decide, by decide, by decide⟩, _, _, rfl, rfl, ?_, ?_⟩
    · unfold CMulW
      decide +kernel
    generalize hbig : (fun i j : Int => V.int (i * j)) ((fun i j : Int => i ^ j.toNat) 10 60) ((fun i j : Int => i ^ j.toNat) 10 39) = big
    have hb : ∃ i, big = .int i := ⟨_, hbig.symm⟩
    clear hbig
    refine ⟨(by show 3 ≤ sizeLine; decide), fun q4 hq4 => ?_⟩
    generalize hL4 : ([V.str (Str.ofString "pass"), V.str (Str.ofString "returns"), big] : List V) = L4
    have A4 : ∀ v ∈ L4, Any H9 v := by
      intro v hv
      rw [← hL4] at hv
      simp only [List.mem_cons, List.not_mem_nil, or_false] at hv
      rcases hv with rfl | rfl | rfl
      · exact .inl ⟨_, rfl⟩
      · exact .inl ⟨_, rfl⟩
      · obtain ⟨i, rfl⟩ := hb
        exact .inr ⟨_, .int i⟩
    have n4 : L4.length = 3 := by rw [← hL4]; rfl
    have s10 : Same H9 (upd H9 q4 (.lst L4)) := (Same.refl H9).put hq4
    have e10 : (upd H9 q4 (.lst L4)) q4 = some (.lst L4) := upd_same
    generalize upd H9 q4 (.lst L4) = H10 at s10 e10 ⊢
    refine ⟨q3, q4, L3, L4, rfl, rfl, s10 q3 _ e9, e10, by show _ ≤ 16777216; omega, fun q5 hq5 => ?_⟩
    have A5 : ∀ v ∈ L3 ++ L4, Any H10 v := fun v hv => by
      rcases List.mem_append.mp hv with hv | hv
      · exact (A3 v hv).same (s9.trans s10)
      · exact (A4 v hv).same s10
    have n5 : (L3 ++ L4).length = 20 := by rw [List.length_append, n3, n4]
    generalize L3 ++ L4 = L5 at A5 n5 ⊢
    have s11 : Same H10 (upd H10 q5 (.lst L5)) := (Same.refl H10).put hq5
    have e11 : (upd H10 q5 (.lst L5)) q5 = some (.lst L5) := upd_same
    generalize upd H10 q5 (.lst L5) = H11 at s11 e11 ⊢
    have s0 := (((s05.trans s58).trans s9).trans s10).trans s11
    refine ⟨_, rfl, q5, rfl, ⟨_, SqL.of e11⟩, fun D hD => ?_⟩
    refine lc_list (K := K) (a := q5) (xs := L5) (fun j Hx => ∃ acc : List V, Hx D = some (.lst acc) ∧ acc.length ≤ j ∧ (∀ v ∈ acc, Oth Hx nm v) ∧ Same H11 Hx) ?_ ?_ ?_ ?_
    · exact ⟨[], upd_same, Nat.le_refl _, fun v h => (by cases h), (Same.refl H11).put hD⟩
    · rintro j Hx _ ⟨acc, _, _, _, sx⟩
      exact SqL.of (sx q5 _ e11)
    · rintro j y Hx hy ⟨acc, g1, gl, ga, sx⟩
      have hjl : j < 20 := by
        have := (List.getElem?_eq_some_iff.mp hy).1
        omega
      have ay := (A5 y (List.mem_of_getElem? hy)).same (s11.trans sx)
      have keepit : Oth Hx nm y → ∃ acc' : List V, (upd Hx D (.lst (acc ++ [y]))) D = some (.lst acc') ∧ acc'.length ≤ j + 1 ∧ (∀ v ∈ acc', Oth (upd Hx D (.lst (acc ++ [y]))) nm v) ∧ Same H11 (upd Hx D (.lst (acc ++ [y]))) := fun oy => by
        have nD : ∀ (v : V), Oth Hx nm v → v ≠ .ref D ∨ True := fun _ _ => .inr trivial
        have hn : H11 D = none := hD
        refine ⟨acc ++ [y], upd_same, by rw [List.length_append]; show _ + 1 ≤ _; omega, fun v hv => ?_, sx.put hD⟩
        have ov : Oth Hx nm v := by
          rcases List.mem_append.mp hv with hv | hv
          · exact ga v hv
          · rw [List.mem_singleton.mp hv]; exact oy
        rcases ov with ⟨z, e, q⟩ | ⟨t, q⟩
        · exact .inl ⟨z, e, q⟩
        · refine .inr ⟨t, ?_⟩
          cases q with
          | non => exact .non
          | bl b => exact .bl b
          | int i => exact .int i
          | @tup a xs h => exact .tup (by rw [upd_ne (ne_of h g1 (by intro z; cases z))]; exact h)
          | @lst a xs h =>
            by_cases e : a = D
            · subst e
              exact .lst upd_same
            · exact .lst (by rw [upd_ne e]; exact h)
          | @dK a kvs h => exact .dK (by rw [upd_ne (ne_of h g1 (by intro z; cases z))]; exact h)
      rcases ay with ⟨z, rfl⟩ | ⟨t, hN⟩
      · refine ⟨rfl, _, rfl, _, _, _, _, true, rfl, .ty _, .base (.str z), kit_ty (by decide +kernel), _, rfl, iteF ⟨_, rfl, _, rfl, l, _, rfl, .inl (SqL.of ((s0.trans sx) l _ hl)), rfl, flat_strs _, _, rfl, ?_⟩⟩
        rw [if_pos rfl, inV_strs]
        refine ite2 (fun h => ⟨_, rfl, acc, g1, by show _ < 16777216; omega, keepit (.inl ⟨z, rfl, ?_⟩)⟩) (fun h => ⟨acc, g1, by omega, ga, sx⟩)
        simpa using h
      · exact ⟨rfl, _, rfl, _, _, _, _, false, rfl, .ty _, hN.ty, hN.kit, _, rfl, iteT (iteT ⟨_, rfl, acc, g1, by show _ < 16777216; omega, keepit (.inr ⟨t, hN⟩)⟩)⟩
    · rintro Hx ⟨acc, g1, gl, ga, sx⟩
      exact k D acc Hx g1 (by omega) ga (s0.trans sx)
end
end K2
end
section
set_option Elab.async false
set_option maxRecDepth 100000
set_option linter.all false
namespace K2
open PySem L2
abbrev sBent : Stmt := top 28
abbrev nBent : List Str := ["_law_pen_here", "_law_lines", "_law_many", "_law_way", "_law_k", "_law_line", "_law_bent_here"]
theorem good_put {rs : List Row} {k : Nat} {r r' : Row} (g : Good rs) (h : rs[k]? = some r) (e : r'.1 = r.1) (R : ∀ known, RowOk known r → RowOk known r') : Good (rs.set k r') := by
  have nm : (rs.set k r').map (·.1) = rs.map (·.1) := by
    rw [List.map_set, e]
    apply List.ext_getElem?
    intro j
    rw [List.getElem?_set]
    by_cases q : k = j
    · subst q
      rw [if_pos rfl, List.getElem?_map, h]
      split
      · rfl
      · rename_i q
        have := (List.getElem?_eq_some_iff.mp h).1
        rw [List.length_map] at q
        exact absurd this q
    · rw [if_neg q]
  have kn : ∀ i, knownAt (rs.set k r') i = knownAt rs i := fun i => by
    unfold knownAt
    rw [List.map_take, List.map_take, nm]
  intro i q hq
  rw [kn i]
  rw [List.getElem?_set] at hq
  by_cases c : k = i
  · subst c
    rw [if_pos rfl] at hq
    split at hq
    · cases hq
      exact R _ (g k r h)
    · cases hq
  · rw [if_neg c] at hq
    exact g i q hq
theorem RowsAt.put {H : Hp} {ts : List Addr} {rs : List Row} {k : Nat} {t : Addr} {r : Row} (R : RowsAt H ts rs) (h : H t = some (rowO r)) : RowsAt H (ts.set k t) (rs.set k r) := by
  refine ⟨by rw [List.length_set, List.length_set, R.1], fun i u q a b => ?_⟩
  rw [List.getElem?_set] at a b
  by_cases c : k = i
  · rw [if_pos c] at a b
    split at a
    · split at b
      · cases a
        cases b
        exact h
      · cases b
    · cases a
  · rw [if_neg c] at a b
    exact R.2 i u q a b
theorem rowOk_rev {known : List Str} {x : Str} {bs : List Str} (R : RowOk known (x, bs)) : RowOk known (x, bs.reverse) :=
  ⟨R.vw, R.new, fun e => R.ne (List.reverse_eq_nil_iff.mp e), by
    have := R.nd
    unfold List.Nodup at *
    rw [List.pairwise_reverse]
    exact this.imp fun h e => h e.symm, fun b hb => R.sub b (List.mem_reverse.mp hb)⟩
theorem rowOk_drop {known : List Str} {x : Str} {bs : List Str} (h2 : 2 ≤ bs.length) (R : RowOk known (x, bs)) : RowOk known (x, bs.take (bs.length - 1)) :=
  ⟨R.vw, R.new, fun e => by
    have := congrArg List.length e
    rw [List.length_take, List.length_nil] at this
    omega, R.nd.sublist (List.take_sublist _ _), fun b hb => R.sub b (List.mem_of_mem_take hb)⟩
theorem rev_ne {bs : List Str} (nd : bs.Nodup) (h2 : 2 ≤ bs.length) : bs.reverse ≠ bs := by
  intro e
  match bs, nd, h2, e with
  | a :: b :: l, nd, _, e =>
    have h := congrArg (fun z : List Str => z[0]?) e
    have h' : (a :: b :: l).reverse[0]? = some a := h
    rw [List.getElem?_reverse (by simp)] at h'
    have hm : a ∈ b :: l := by
      have h3 : (a :: b :: l)[(b :: l).length]? = some a := by
        have : (a :: b :: l).length - 1 - 0 = (b :: l).length := by simp
        rw [this] at h'
        exact h'
      rw [List.length_cons, List.getElem?_cons_succ] at h3
      exact List.mem_of_getElem? h3
    exact (List.nodup_cons.mp nd).1 hm
theorem set_ne {rs : List Row} {k : Nat} {r r' : Row} (h : rs[k]? = some r) (ne : r' ≠ r) : rs.set k r' ≠ rs := by
  intro e
  have := congrArg (fun z : List Row => z[k]?) e
  have h2 : (rs.set k r')[k]? = rs[k]? := this
  rw [List.getElem?_set, if_pos rfl, h, if_pos (List.getElem?_eq_some_iff.mp h).1] at h2
  exact ne (Option.some.inj h2)
theorem cut_neg {α : Type} (f : α → V) (xs : List α) : cutV (xs.map f) none (some (-1)) = (xs.take (xs.length - 1)).map f := by
  unfold cutV
  have e : HT.sIx (xs.map f).length (xs.map f).length (some (-1)) = xs.length - 1 := by
    show (if (-1 : Int) < 0 then ((-1 : Int) + ((xs.map f).length : Int)).toNat else min (-1 : Int).toNat (xs.map f).length) = _
    rw [if_pos (by decide), List.length_map]
    omega
  rw [e, HT.sIx_none, List.drop_zero, Nat.sub_zero, List.map_take]
theorem cutR_take (ts : List Addr) (k : Nat) (h : k ≤ ts.length) : cutV (ts.map V.ref) none (some (k : Int)) = (ts.take k).map V.ref := by
  unfold cutV
  rw [HT.sIx_nat, HT.sIx_none, List.drop_zero, Nat.sub_zero, ← List.map_take, List.length_map, Nat.min_eq_left h]
theorem cutR_drop (ts : List Addr) (k : Nat) (h : k ≤ ts.length) : cutV (ts.map V.ref) (some (k : Int)) none = (ts.drop k).map V.ref := by
  unfold cutV
  rw [HT.sIx_nat, HT.sIx_none, List.length_map, Nat.min_eq_left h, ← List.map_drop, List.take_of_length_le]
  rw [List.length_map, List.length_drop]
  exact Nat.le_refl _
def spBent : Sp := fun vs H Q _ => ∃ (p c l : Addr) (ns : List Int) (n : Nat) (ts : List Addr) (rs : List Row), vs = [.ref p, .ref l] ∧ Pen H p c ns n ∧ n + 10 ≤ 100000 ∧ H l = some (.lst (ts.map V.ref)) ∧ RowsAt H ts rs ∧ Good rs ∧ rs.length ≤ 30 ∧ rs ≠ [] ∧
  ∀ (q : Addr) (ts' : List Addr) (qs : List Row) (H' : Hp), H' q = some (.lst (ts'.map V.ref)) → RowsAt H' ts' qs → Good qs → qs.length ≤ 30 → qs ≠ rs → Keep p H H' → Pen H' p c ns (n + 5) → Q (.ref q) H'
section
variable {P : Program} {w : World} {K : PySem.W.Frag} {mg : Str → Option Value} {base : Heap}
theorem scBent : FnScope nBent ["_law_pen_here", "_law_lines"] (defScope sBent) := ⟨rfl, rfl, rfl, by decide +kernel, rfl, by decide +kernel, by decide +kernel⟩
theorem ok_bent {f fD fP : Addr} {fd fdD fdP : FuncData} (F : Fun K "_law_bent" "_law_bent" sBent f fd) (T : Bi mg) (D : Df K mg "_law_draw" sDraw fD fdD ["_law_pen_here", "_law_many"]) (GD : FnOk P w K mg base CX0 1 fD fdD ["_law_pen_here", "_law_many"] spDraw)
    (PK : Df K mg "_law_pick" sPick fP fdP ["_law_pen_here", "_law_some"]) (GP : FnOk P w K mg base CX0 2 fP fdP ["_law_pen_here", "_law_some"] spPick) : FnOk P w K mg base CX0 3 f fd ["_law_pen_here", "_law_lines"] spBent := by
  refine F.ok scBent (fun vs H Q E h => ?_) (fun cdv A outer s H vs Q E hr h => ?_)
  · obtain ⟨p, c, l, ns, n, ts, rs, rfl, _⟩ := h
    rfl
  · obtain ⟨p, c, l, ns, n, ts, rs, rfl, P0, hn, hl, R, g, h30, hne, k⟩ := h
    have hr1 : Room 1 _ := hr.mono (by decide)
    have hr2 : Room 2 _ := hr
    have nl := P0.refs_ne hl
    have tl : ts.length = rs.length := R.1
    refine ⟨_, (pss_cons (ps_setLc (i := 2) (own := [("_law_k", 4)]) (g := gName 4)  rfl scBent.nd rfl rfl (sw_true rfl rfl rfl (by decide +kernel)) (pi_range1 rfl T.range (pa_cons (pe_callB call_len_seq (by rfl) T.len PySem.boot_len (pa_cons (pv 1) pa_nil)) pa_nil)) (blkOk_by (N := nBent) (sc := defScope sBent) (by decide +kernel)) (fun _ _ _ _ _ => pg_name (i := 4) scBent.nd rfl (Or.inl rfl)) (fun _ _ _ _ _ => pts_one (pt_cmpR op_gt (pe_callB (call_len_seqK (K' := K) rfl) (by rfl) T.len PySem.boot_len (pa_cons (pe_ix (ix_listK (K' := K) rfl) (pv 1) (pv 4) (fun _ _ => rfl)) pa_nil)) pe_int (nomark _))) (fun _ _ _ _ _ => pv 4))
      (pss_cons (ps_set (i := 3) scBent.nd rfl (Or.inl rfl) (pe_call GD hr1 (by rfl) D.m D.F.kp D.b .nil pass0 (pa_cons (pv 0) (pa_cons pe_int pa_nil))))
      (pss_cons (ps_if (PW.pt (pw_or (pt_cmpR op_eq (pv 3) pe_int (nomark _)) (pw_or1 (pt_cmpR (op_eqD hr.units) (pv 2) (pe_lst pa_nil) (nomark _)))))
      (pss_one (ps_ret (pe_slice sl_list (pv 1) po_none (po_some (pe_un un_neg pe_int)))))
      pss_nil)
      (pss_cons (ps_set (i := 4) scBent.nd rfl (Or.inl rfl) (pe_call GP hr2 (by rfl) PK.m PK.F.kp PK.b .nil pass0 (pa_cons (pv 0) (pa_cons (pv 2) pa_nil))))
      (pss_cons (ps_set (i := 5) scBent.nd rfl (Or.inl rfl) (pe_ix ix_list (pv 1) (pv 4) (fun _ _ => rfl)))
      (pss_cons (ps_set (i := 6) scBent.nd rfl (Or.inl rfl) (pe_ifExp (pt_cmpR op_eq (pv 3) pe_int (nomark _)) (pe_op op_cat2 (pe_tup (pa_cons (pe_ix ix_tup (pv 5) pe_int (fun _ _ => rfl)) pa_nil)) (pe_revT (pe_slice sl_tup2 (pv 5) (po_some pe_int) po_none))) (pe_slice sl_tup2 (pv 5) po_none (po_some (pe_un un_neg pe_int)))))
      (pss_one (ps_ret (pe_op op_cat (pe_op op_cat (pe_slice sl_list (pv 1) po_none (po_some (pv 4))) (pe_lst (pa_cons (pv 6) pa_nil))) (pe_slice sl_list (pv 1) (po_some (pe_op op_add (pv 4) pe_int)) po_none)))))))))), ?_⟩
    refine ⟨_, rfl, l, _, rfl, .inl (SqL.of hl), ?_⟩
    have lenm : (ts.map V.ref).length = rs.length := by rw [List.length_map, tl]
    refine ⟨_, rfl, by omega, by omega, fun D0 hD0 => ?_⟩
    refine lc_range (lo := 0) (n := (ts.map V.ref).length) (fun i Hx => ∃ ks : List Nat, (∀ k ∈ ks, ∃ r, rs[k]? = some r ∧ 2 ≤ r.2.length) ∧ ks.length ≤ i ∧ Hx D0 = some (.lst (ks.map fun k : Nat => V.int (k : Int))) ∧ Same H Hx) ?_ ?_ ?_
    · exact ⟨[], fun k h => (by cases h), Nat.le_refl _, upd_same, (Same.refl H).put hD0⟩
    · rintro i Hx hi ⟨ks, hks, hkl, hD, sx⟩
      rw [lenm] at hi
      have Rx := R.mono fun b r e => sx b _ e
      obtain ⟨t, r, e1, e2, e3⟩ := Rx.get hi
      have e4 := Rx.2 i t r e1 e2
      refine ⟨rfl, _, rfl, _, rfl, l, _, _, _, rfl, rfl, SqL.of (sx l _ hl), at_of (j := i) (Int.zero_add _) (by rw [List.getElem?_map, e1]; rfl), t, _, rfl, .inr (SqT.of e4), _, _, rfl, rfl, _, rfl, ite2 (fun h => ?_) (fun h => ⟨ks, hks, by omega, hD, sx⟩)⟩
      have h := of_decide_eq_true h
      rw [List.length_map, List.length_cons] at h
      refine ⟨_, rfl, _, hD, ?_, ks ++ [i], ?_, ?_, ?_, sx.put hD0⟩
      · rw [List.length_map]; show _ < 16777216; omega
      · intro k hk
        rcases List.mem_append.mp hk with hk | hk
        · exact hks k hk
        · rw [List.mem_singleton.mp hk]
          exact ⟨r, e2, by omega⟩
      · rw [List.length_append]; show _ + 1 ≤ _; omega
      · rw [upd_same, List.map_append, Int.zero_add]
        rfl
    · rintro Hx ⟨ks, hks, hkl, hD, sx⟩
      rw [lenm] at hkl
      have Px := P0.same sx
      have nD : D0 ≠ p := (P0.pne hD0).symm
      refine ⟨_, rfl, p, c, ns, n, _, rfl, Px, by omega, by decide, by decide, fun wv Ha w0 w1 ka Pa => ?_⟩
      have KA : Keep p H Ha := sx.keep.trans ka
      have hDa := ka D0 _ hD nD
      have giveA : ∀ (Hz : Hp) (q : Addr), Same Ha Hz → Hz q = none → Q (.ref q) (upd Hz q (.lst (cutV (ts.map V.ref) none (some (-1))))) := fun Hz q sz hq => by
        rw [cut_neg]
        have s1 : Same Hz (upd Hz q (.lst ((ts.take (ts.length - 1)).map V.ref))) := (Same.refl Hz).put hq
        have kz := KA.trans (sz.trans s1).keep
        refine k q (ts.take (ts.length - 1)) (rs.take (rs.length - 1)) _ upd_same ?_ (good_take g _) (by rw [List.length_take]; omega) (fun e => ?_) kz ((Pa.same (sz.trans s1)).mono (by omega))
        · have Rz := R.keep P0 kz
          refine ⟨by rw [List.length_take, List.length_take]; omega, fun i u q a b => ?_⟩
          rw [List.getElem?_take] at a b
          split at a
          · split at b
            · exact Rz.2 i u q a b
            · cases b
          · cases a
        · have := congrArg List.length e
          rw [List.length_take] at this
          have := List.length_pos_iff.mpr hne
          omega
      refine ⟨_, rfl, rfl, _, rfl, ite2 (fun h0 => iteT ⟨_, rfl, _, rfl, _, rfl, l, _, rfl, SqL.of (KA l _ hl nl), fun q hq => giveA _ q (Same.refl _) hq⟩) (fun h0 => ?_)⟩
      refine ⟨_, rfl, Nat.zero_le _, fun e1 he1 => ?_⟩
      have s1 : Same Ha (upd Ha e1 (.lst [])) := (Same.refl Ha).put he1
      have ee : (upd Ha e1 (.lst [])) e1 = some (.lst []) := upd_same
      generalize upd Ha e1 (.lst []) = Hb at s1 ee ⊢
      have eD : (ks.map fun k : Nat => V.int (k : Int)) = (ks.map fun k : Nat => (k : Int)).map V.int := by rw [List.map_map]; rfl
      have hDb := s1 D0 _ hDa
      have Pb := Pa.same s1
      have KB := KA.trans s1.keep
      refine ⟨.list ((ks.map fun k : Nat => (k : Int)).map PyData.int), .list [], .lst (SqL.of (by rw [← eD]; exact hDb)) (ints_dp _ _ _), .lst (SqL.of ee) .nil, shaped_ints _, rfl, _, rfl, ?_⟩
      refine ite2 (fun h1 => ⟨_, rfl, _, rfl, _, rfl, l, _, rfl, SqL.of (KB l _ hl nl), fun q hq => giveA _ q s1 hq⟩) (fun h1 => ?_)
      have hk0 : ks ≠ [] := fun e => by
        subst e
        exact h1 rfl
      refine ⟨_, rfl, _, rfl, p, c, ns, n + 1, _, _, rfl, Pb, by omega, .inl ⟨D0, rfl, nD, hDb⟩, fun e => hk0 (List.map_eq_nil_iff.mp e), by rw [List.length_map]; omega, fun j v Hc hv kc Pc => ?_⟩
      obtain ⟨kk, hkk, rfl⟩ : ∃ kk ∈ ks, v = V.int (kk : Int) := by
        obtain ⟨kk, hm, e⟩ := List.mem_map.mp (List.mem_of_getElem? hv)
        exact ⟨kk, hm, e.symm⟩
      obtain ⟨r, hr', h2⟩ := hks kk hkk
      have KC := KB.trans kc
      have hlc := KC l _ hl nl
      have Rc := R.keep P0 KC
      have kl : kk < rs.length := (List.getElem?_eq_some_iff.mp hr').1
      obtain ⟨t, r2, e3, e4, _⟩ := Rc.get kl
      rw [hr'] at e4
      cases e4
      have ht := Rc.2 kk t r e3 hr'
      have RO := g kk r hr'
      obtain ⟨x, bs⟩ := r
      unfold rowO at ht
      have h2 : 2 ≤ bs.length := h2
      have hbs : bs.length ≤ 40 := by
        have q := RO.nd.length_le_of_subset (RO.sub)
        have q : bs.length ≤ (knownAt rs kk).length := q
        rw [knownAt_len (Nat.le_of_lt kl)] at q
        omega
      refine ⟨_, rfl, _, rfl, l, _, _, _, rfl, rfl, SqL.of hlc, at_of (j := kk) rfl (by rw [List.getElem?_map, e3]; rfl), ?_⟩
      refine ⟨_, rfl, rfl, _, rfl, ite2 (fun hw => ?b1) (fun hw => ?b2)⟩
      case' b1 =>
        refine ⟨_, rfl, t, _, _, _, rfl, rfl, SqT.of ht, atI_nat (j := 0) rfl, (by show 1 ≤ sizeLine; decide), fun t1 ht1 => ?_⟩
        have q1 : Same Hc (upd Hc t1 (.tup [V.str x])) := (Same.refl Hc).put ht1
        have f1 : (upd Hc t1 (.tup [V.str x])) t1 = some (.tup [V.str x]) := upd_same
        generalize upd Hc t1 (.tup [V.str x]) = Hd at q1 f1 ⊢
        refine ⟨_, rfl, _, rfl, t, _, rfl, q1 t _ ht, fun t2 He q2 f2 => ?_⟩
        rw [cut1'] at f2
        refine ⟨t2, _, rfl, f2, by rw [List.length_map]; omega, fun t3 ht3 => ?_⟩
        have q3 : Same He (upd He t3 (.tup (bs.map V.str).reverse)) := (Same.refl He).put ht3
        refine ⟨t1, t3, _, _, rfl, rfl, q3 t1 _ (q2 t1 _ f1), upd_same, ?_, fun t4 H4 q4 f4 => ?_⟩
        · rw [List.length_reverse, List.length_map]
          show 1 + bs.length ≤ 16777216
          omega
        have s4 : Same Hc H4 := ((q1.trans q2).trans q3).trans q4
        have f4 : H4 t4 = some (rowO (x, bs.reverse)) := by rw [f4, ← List.map_reverse]; rfl
        have G4 : Good (rs.set kk (x, bs.reverse)) := good_put g hr' rfl fun known => rowOk_rev
        have N4 : rs.set kk (x, bs.reverse) ≠ rs := set_ne hr' fun e => rev_ne RO.nd h2 (Prod.mk.inj e).2
        generalize bs.reverse = bs' at f4 G4 N4
      case' b2 =>
        refine ⟨_, rfl, _, rfl, _, rfl, t, _, rfl, ht, fun t4 H4 s4 f4 => ?_⟩
        have f4 : H4 t4 = some (rowO (x, bs.take (bs.length - 1))) := by
          rw [f4, cut_neg]
          have e : (x :: bs).take ((x :: bs).length - 1) = x :: bs.take (bs.length - 1) := by
            have : (x :: bs).length - 1 = (bs.length - 1) + 1 := by rw [List.length_cons]; omega
            rw [this, List.take_succ_cons]
          rw [e]
          rfl
        have G4 : Good (rs.set kk (x, bs.take (bs.length - 1))) := good_put g hr' rfl fun known => rowOk_drop h2
        have N4 : rs.set kk (x, bs.take (bs.length - 1)) ≠ rs := set_ne hr' fun e => by
          have := congrArg List.length (Prod.mk.inj e).2
          rw [List.length_take] at this
          omega
        generalize bs.take (bs.length - 1) = bs' at f4 G4 N4
      all_goals
        have K4 := KC.trans s4.keep
        have P4 := Pc.same s4
        have hl4 := s4 l _ hlc
        refine ⟨_, rfl, _, rfl, _, rfl, l, _, rfl, SqL.of hl4, fun q1 hq1 => ?_⟩
        rw [cutR_take ts kk (by omega)]
        have a1 : Same H4 (upd H4 q1 (.lst ((ts.take kk).map V.ref))) := (Same.refl H4).put hq1
        have b1 : (upd H4 q1 (.lst ((ts.take kk).map V.ref))) q1 = some (.lst ((ts.take kk).map V.ref)) := upd_same
        generalize upd H4 q1 (.lst ((ts.take kk).map V.ref)) = H5 at a1 b1 ⊢
        refine ⟨_, rfl, (by show 1 ≤ sizeLine; decide), fun q2 hq2 => ?_⟩
        have a2 : Same H5 (upd H5 q2 (.lst [V.ref t4])) := (Same.refl H5).put hq2
        have b2 : (upd H5 q2 (.lst [V.ref t4])) q2 = some (.lst [V.ref t4]) := upd_same
        generalize upd H5 q2 (.lst [V.ref t4]) = H6 at a2 b2 ⊢
        refine ⟨q1, q2, _, _, rfl, rfl, a2 q1 _ b1, b2, by rw [List.length_map, List.length_take]; show _ + 1 ≤ 16777216; omega, fun q3 hq3 => ?_⟩
        have a3 : Same H6 (upd H6 q3 (.lst ((ts.take kk).map V.ref ++ [V.ref t4]))) := (Same.refl H6).put hq3
        have b3 : (upd H6 q3 (.lst ((ts.take kk).map V.ref ++ [V.ref t4]))) q3 = some (.lst ((ts.take kk).map V.ref ++ [V.ref t4])) := upd_same
        generalize upd H6 q3 (.lst ((ts.take kk).map V.ref ++ [V.ref t4])) = H7 at a3 b3 ⊢
        have a03 := (a1.trans a2).trans a3
        refine ⟨_, rfl, _, rfl, _, _, rfl, rfl, _, rfl, l, _, rfl, SqL.of (a03 l _ hl4), fun q4 hq4 => ?_⟩
        have ecut : cutV (ts.map V.ref) (some ((kk : Int) + 1)) none = (ts.drop (kk + 1)).map V.ref := cutR_drop ts (kk + 1) (by omega)
        rw [ecut]
        have a4 : Same H7 (upd H7 q4 (.lst ((ts.drop (kk + 1)).map V.ref))) := (Same.refl H7).put hq4
        have b4 : (upd H7 q4 (.lst ((ts.drop (kk + 1)).map V.ref))) q4 = some (.lst ((ts.drop (kk + 1)).map V.ref)) := upd_same
        generalize upd H7 q4 (.lst ((ts.drop (kk + 1)).map V.ref)) = H8 at a4 b4 ⊢
        refine ⟨q3, q4, _, _, rfl, rfl, a4 q3 _ b3, b4, ?_, fun q5 hq5 => ?_⟩
        · rw [List.length_append, List.length_map, List.length_take, List.length_map, List.length_drop]
          show _ + 1 + _ ≤ 16777216
          omega
        have es : (ts.take kk).map V.ref ++ [V.ref t4] ++ (ts.drop (kk + 1)).map V.ref = (ts.set kk t4).map V.ref := by
          rw [List.set_eq_take_append_cons_drop, if_pos (by omega), List.map_append, List.map_cons, List.append_assoc]
          rfl
        rw [es]
        have a5 : Same H8 (upd H8 q5 (.lst ((ts.set kk t4).map V.ref))) := (Same.refl H8).put hq5
        have aa := ((a03.trans a4).trans a5)
        have kz := K4.trans aa.keep
        exact k q5 (ts.set kk t4) _ _ upd_same ((R.keep P0 kz).put (aa t4 _ f4)) G4 (by rw [List.length_set]; exact h30) N4 kz ((P4.same aa).mono (by omega))
end
end K2
end
section
set_option Elab.async false
set_option maxRecDepth 100000
set_option linter.all false
namespace K2
open PySem L2 PySem.Spec PyProof.Rows
abbrev sRg : Stmt := top 29
abbrev nRg : List Str := ["_law_pen_here", "_law_lines", "_law_built", "_law_names", "_law_due", "_law_same", "_law_some", "_law_bent_here", "_law_line", "_law_name", "_law_one"]
theorem ix_tupK {X : Cx} {K' : PySem.W.Frag} (hK : X.K = K') : IxR X (rIxT K') := by
  subst hK
  exact ix_tup
section
variable {X : Cx} {CX : CXT} {k : Nat} {f C : Addr} {fd : FuncData} {ps : List Str} {sp : Sp} {E : XK}
theorem op_eqOK {K' : PySem.W.Frag} (hK : X.K = K') (F : FnOk X.prog X.w X.K X.mg X.base CX k f fd ps sp) (hb : Binds X.K fd ps []) (hx : Passes CX X E) (hr : Room k X.A) (hu : X.A.units < cLine) (hs : PySem.W.findIn X.K (.ref C) "__eq__" = some (some (.ref f))) (hf : PySem.W.isFn X.K (.ref f) = true) :
    OpR X (compareOp .Eq) (fun x y H Q => ∃ a dx fs, x = .ref a ∧ H a = some (.ins C dx fs) ∧ RightT K' C H y ∧ sp [.ref a, y] H (fun v H' => ∃ b, v = .bl b ∧ Q (.bl b) H') E) := by
  subst hK
  exact op_eqO F hb hx hr hu hs hf
end
/-- rows, names and how many -/
def d3 (rs : List Row) (nm : List Str) (n : Nat) : PyData := .tuple [rowsD rs, tD nm, .int (n : Int)]
theorem small_int : ∀ k : Fin 41, (PyData.shown (.int ((k : Nat) : Int))).length ≤ 13 ∧ PyData.weight (.int ((k : Nat) : Int)) ≤ 10 ∧ PyData.showable (.int ((k : Nat) : Int)) = true := by decide +kernel
theorem d3_show (rs : List Row) (nm : List Str) {n : Nat} (hn : n ≤ 40) : (d3 rs nm n).showable = true := by
  have si : PyData.showable (.int (n : Int)) = true := (small_int ⟨n, by omega⟩).2.2
  show (PyData.showable (rowsD rs) && (PyData.showable (tD nm) && (PyData.showable (.int (n : Int)) && true))) = true
  rw [rowsD_show, tD_show, si]
  rfl
theorem d3_nodict (rs : List Row) (nm : List Str) (n : Nat) : (d3 rs nm n).hasDict = false := by
  show (PyData.hasDict (rowsD rs) || (PyData.hasDict (tD nm) || (false || false))) = false
  rw [rowsD_nodict, tD_nodict]
  rfl
theorem d3_depth (rs : List Row) (nm : List Str) (n : Nat) : (d3 rs nm n).depth ≤ 3 := by
  have := rowsD_depth rs
  have e := tD_depth nm
  show max (PyData.depth (rowsD rs)) (max (PyData.depth (tD nm)) (max 0 0)) + 1 ≤ 3
  rw [e]
  have : max (PyData.depth (rowsD rs)) (max 1 (max 0 0)) ≤ 2 := Nat.max_le.mpr ⟨this, by decide⟩
  omega
theorem d3_fits {rs : List Row} {nm : List Str} {n : Nat} (h : ∀ r ∈ rs, RowFit r) (hl : rs.length ≤ 40) (ok : ∀ y ∈ nm, sOk y = true) (h8 : ∀ y ∈ nm, y.length ≤ 8) (h40 : nm.length ≤ 40) (hn : n ≤ 40) : (d3 rs nm n).shown.length ≤ sizeLine := by
  have si := small_int ⟨n, by omega⟩
  have w1 := rows_weight rs h
  have q1 : PyData.weight (rowsD rs) = PyData.weightAll (rs.map fun r => tD (r.1 :: r.2)) := rfl
  have w2 := strs_weight nm h8
  have q2 : PyData.weight (tD nm) = PyData.weightAll (nm.map PyData.str) := rfl
  have dd := d3_depth rs nm n
  refine PyData.shown_fits_of_layable0 (B := 13) (by decide) (by decide) ?_ ?_
  · show (PyData.canLayAll0 (rs.map fun r => tD (r.1 :: r.2)) && (PyData.canLayAll0 (nm.map PyData.str) && (true && true)) && decide (PyData.depth (d3 rs nm n) ≤ 64) && decide (PyData.weight (rowsD rs) + 1 + (PyData.weight (tD nm) + 1 + (PyData.weight (.int (n : Int)) + 1 + 0)) ≤ 2 ^ 20)) = true
    rw [rows_lay rs h, strs_lay nm ok, q1, q2]
    simp only [Bool.true_and, Bool.and_true, Bool.and_eq_true, decide_eq_true_eq]
    have := si.2.1
    have e : ((⟨n, by omega⟩ : Fin 41) : Nat) = n := rfl
    rw [e] at this
    omega
  · show (PyData.intsShortAll 13 (rs.map fun r => tD (r.1 :: r.2)) && (PyData.intsShortAll 13 (nm.map PyData.str) && (decide ((PyData.shown (.int (n : Int))).length ≤ 13) && true))) = true
    rw [rows_short, PyData.intsShortAll_strs, decide_eq_true si.1]
    rfl
def rowsLD (rs : List Row) : PyData := .list (rs.map fun r => tD (r.1 :: r.2))
theorem rows_eqv0 (rs : List Row) : PyData.eqv (rowsLD rs) (.list []) = decide (rs = []) := by
  cases rs with
  | nil => rfl
  | cons r rs => rfl
theorem rowsL_shaped {rs : List Row} (h : ∀ r ∈ rs, RowFit r) : SeqAt.shaped (rowsLD rs) = true := by
  have d := rows_depth rs
  show (PyData.canLayAll0 (rs.map fun r => tD (r.1 :: r.2)) && decide (PyData.depthAll (rs.map fun r => tD (r.1 :: r.2)) + 1 ≤ 64)) = true
  rw [rows_lay rs h]
  simp only [Bool.true_and, decide_eq_true_eq]
  omega
theorem sub_ty {K : PySem.W.Frag} {C : Addr} {T : String} {l : List String} (e : fastBuiltinMro T = some (l.map Value.type)) : PySem.W.subIn K (.type T) (.ref C) = some false := by
  show (fastBuiltinMro T).map (·.contains (.ref C)) = some false
  rw [e]
  simp
theorem nf_ty {K : PySem.W.Frag} {C : Addr} {T : String} {l : List String} (e : fastBuiltinMro T = some (l.map Value.type)) : PySem.W.notFirst K C (.type T) = true := by
  unfold PySem.W.notFirst
  rw [sub_ty e]
  simp
def spRg : Sp := fun vs H Q _ => ∃ (p c l : Addr) (ns : List Int) (n : Nat) (ts : List Addr) (rs : List Row), vs = [.ref p, .ref l] ∧ Pen H p c ns n ∧ n + 400 ≤ 100000 ∧ H l = some (.lst (ts.map V.ref)) ∧ RowsAt H ts rs ∧ Good rs ∧ rs.length ≤ 30 ∧ ∀ H', Keep p H H' → Pen H' p c ns (n + 200) → Q (.bl true) H'
/-- what the class's own == and in must be, and what built-in types are beside it -/
structure Kit (K : PySem.W.Frag) (C : Addr) : Prop where
  kN : PySem.W.kitOne K (.type "NoneType") (.ref C) = some false
  kT : PySem.W.kitOne K (.type "tuple") (.ref C) = some false
  kL : PySem.W.kitOne K (.type "list") (.ref C) = some false
  kS : PySem.W.kitOne K (.type "str") (.ref C) = some false
  kI : PySem.W.kitOne K (.type "int") (.ref C) = some false
section
variable {P : Program} {w : World} {K : PySem.W.Frag} {mg : Str → Option Value} {base : Heap}
theorem scRg : FnScope nRg ["_law_pen_here", "_law_lines"] (defScope sRg) := ⟨rfl, rfl, rfl, by decide +kernel, rfl, by decide +kernel, by decide +kernel⟩
set_option maxHeartbeats 1000000 in
theorem ok_rg {f fN fO fB fE fCo fLn fI fPl pP C : Addr} {mc : Value} {fd fdN fdO fdB fdE fdCo fdLn fdPl : FuncData} (F : Fun K "_law_right" "_law_right" sRg f fd) (T : Bi mg) (Y : Txt K mg C) (O : Own K C) (Z : Kit K C)
    (NW : Df K mg "_law_new" sNew fN fdN ["_law_pen_here", "_law_lines"]) (GN : FnOk P w K mg base CX0 7 fN fdN ["_law_pen_here", "_law_lines"] (spNew C)) (OT : Df K mg "_law_others" sOt fO fdO ["_law_names"]) (GO : FnOk P w K mg base CX0 1 fO fdO ["_law_names"] spOt)
    (BE : Df K mg "_law_bent" sBent fB fdB ["_law_pen_here", "_law_lines"]) (GB : FnOk P w K mg base CX0 3 fB fdB ["_law_pen_here", "_law_lines"] spBent)
    (GE : FnOk P w K mg base CX0 1 fE fdE ["self", "other"] (spEqC K C)) (bE : Binds K fdE ["self", "other"] []) (hE : PySem.W.findIn K (.ref C) "__eq__" = some (some (.ref fE))) (hEf : PySem.W.isFn K (.ref fE) = true) (hNe : PySem.W.findIn K (.ref C) "__ne__" = some (some (.builtin "object.__ne__")))
    (GCo : FnOk P w K mg base CX0 1 fCo fdCo ["self", "x"] (spCo K C)) (bCo : Binds K fdCo ["self", "x"] []) (hCo : PySem.W.findIn K (.ref C) "__contains__" = some (some (.ref fCo))) (hCof : PySem.W.isFn K (.ref fCo) = true)
    (GLn : FnOk P w K mg base CX0 1 fLn fdLn ["self"] (spLenC C)) (bLn : Binds K fdLn ["self"] []) (hLn : PySem.W.findIn K (.ref C) "__len__" = some (some (.ref fLn))) (hLnf : PySem.W.isFn K (.ref fLn) = true)
    (M : Mk K C fI) (GI : FnR P w K mg base CX0 4 fI (spInitR C)) (cR : ClX.CRead K C mc) (sP : SMet K C mc "plain" pP fPl) (GPl : FnOk P w K mg base CX0 6 fPl fdPl [] (spPlain C)) (bPl : Binds K fdPl [] []) : FnG P w K mg base 8 f fd ["_law_pen_here", "_law_lines"] spRg := by
  refine okG F scRg (fun vs H Q E h => ?_) (fun cdv A outer s H vs Q E hr gu h => ?_)
  · obtain ⟨p, c, l, ns, n, ts, rs, rfl, _⟩ := h
    rfl
  · obtain ⟨p, c, l, ns, n, ts, rs, rfl, P0, hn, hl, R, g, h30, k⟩ := h
    have hu := hu_of hr
    have hr7 : Room 7 _ := hr
    have hr6 : Room 6 _ := hr.mono (by decide)
    have hr5 : Room 5 _ := hr.mono (by decide)
    have hr3 : Room 3 _ := hr.mono (by decide)
    have hr2 : Room 2 _ := hr.mono (by decide)
    have hr1 : Room 1 _ := hr.mono (by decide)
    have hcu1 := hu
    have hcu := Nat.lt_of_succ_lt hu
    have nl := P0.refs_ne hl
    have tl : ts.length = rs.length := R.1
    have fit := g.fit h30
    refine ⟨_, (pss_cons (ps_set (i := 2) scRg.nd rfl (Or.inr rfl) (pe_call GN hr7 (by rfl) NW.m NW.F.kp NW.b .nil pass0 (pa_cons (pv 0) (pa_cons (pv 1) pa_nil))))
      (pss_cons (ps_set (i := 3) scRg.nd rfl (Or.inl rfl) (pe_op op_cat (pe_lst (pa_cons pe_str (pa_cons pe_str pa_nil))) (pe_lc (own := [("_law_line", 8)]) (g := gName 8) (tt := tYes) rfl scRg.nd (pi_list (pv 1)) (blkOk_by (N := nRg) (sc := defScope sRg) (by decide +kernel)) (fun _ _ _ _ _ => pg_name (i := 8) scRg.nd rfl (Or.inl rfl)) (fun _ _ _ _ _ => pts_nil) (fun _ _ _ _ _ => pe_ix (ix_tupK (K' := K) rfl) (pv 8) pe_int (fun _ _ => rfl)))))
      (pss_cons (ps_set (i := 4) scRg.nd rfl (Or.inl rfl) (pe_tup (pa_cons (pe_callTy call_tuple_of (by rfl) T.tuple (by decide +kernel) (pa_cons (pv 1) pa_nil)) (pa_cons (pe_callTy call_tuple_of (by rfl) T.tuple (by decide +kernel) (pa_cons (pv 3) pa_nil)) (pa_cons (pe_callB call_len_seq (by rfl) T.len PySem.boot_len (pa_cons (pv 3) pa_nil)) pa_nil)))))
      (pss_cons (ps_if (pt_cmpR op_ne (pe_callB (call_reprD gu hr.units) (by rfl) T.repr (by decide +kernel)  (pa_cons (pe_tup (pa_cons (pe_fld (pv 2) rfl) (pa_cons (pe_fld (pv 2) rfl) (pa_cons (pe_callB (call_lenO GLn bLn pass0 hr2 hLn hLnf) (by rfl) T.len PySem.boot_len (pa_cons (pv 2) pa_nil)) pa_nil)))) pa_nil)) (pe_callB (call_reprD gu hr.units) (by rfl) T.repr (by decide +kernel)  (pa_cons (pv 4) pa_nil)) (nomark _))
      (pss_one (ps_ret pe_bl))
      pss_nil)
      (pss_cons (ps_if (pt_cmpR (op_neD hr.units) (pe_lc (own := [("_law_name", 9)]) (g := gName 9)  rfl scRg.nd (pi_list (pv 3)) (blkOk_by (N := nRg) (sc := defScope sRg) (by decide +kernel)) (fun _ _ _ _ _ => pg_name (i := 9) scRg.nd rfl (Or.inl rfl)) (fun _ _ _ _ _ => pts_one (pt_cmpR op_notBl (pe_cmpR (op_inO GCo bCo pass0 hr1 hCo hCof) (pv 9) (pv 2) rfl) pe_bl (nomark _))) (fun _ _ _ _ _ => pv 9)) (pe_lst pa_nil) (nomark _))
      (pss_one (ps_ret pe_bl))
      pss_nil)
      (pss_cons (ps_if (pt_cmpR (op_neD hr.units) (pe_lc (own := [("_law_one", 10)]) (g := gName 10)  rfl scRg.nd (pi_list (pe_call GO hr1 (by rfl) OT.m OT.F.kp OT.b .nil pass0 (pa_cons (pv 3) pa_nil))) (blkOk_by (N := nRg) (sc := defScope sRg) (by decide +kernel)) (fun _ _ _ _ _ => pg_name (i := 10) scRg.nd rfl (Or.inl rfl)) (fun _ _ _ _ _ => pts_one (pt_cmpR op_notBl (pe_cmpR (op_inO GCo bCo pass0 hr1 hCo hCof) (pv 10) (pv 2) rfl) pe_bl (nomark _))) (fun _ _ _ _ _ => pv 10)) (pe_lst pa_nil) (nomark _))
      (pss_one (ps_ret pe_bl))
      pss_nil)
      (pss_cons (ps_set (i := 5) scRg.nd rfl (Or.inl rfl) (pe_call GN hr7 (by rfl) NW.m NW.F.kp NW.b .nil pass0 (pa_cons (pv 0) (pa_cons (pv 1) pa_nil))))
      (pss_cons (ps_if (pt_cmpR op_ne (pe_callB (call_reprB gu hr.units) (by rfl) T.repr (by decide +kernel)  (pa_cons (pe_lst (pa_cons (pe_cmpR (op_eqOK (K' := K) rfl GE bE pass0 hr1 hcu hE hEf) (pv 2) (pv 5) (nomark _)) (pa_cons (pe_cmpR (op_eqOK (K' := K) rfl GE bE pass0 hr1 hcu hE hEf) (pv 5) (pv 2) (nomark _)) (pa_cons (pe_cmpR (op_neO GE bE pass0 hr2 hcu1 hE hEf hNe O.hm) (pv 2) (pv 5) (nomark _)) pa_nil)))) pa_nil)) (pe_callB (call_reprB gu hr.units) (by rfl) T.repr (by decide +kernel)  (pa_cons (pe_lst (pa_cons pe_bl (pa_cons pe_bl (pa_cons pe_bl pa_nil)))) pa_nil)) (nomark _))
      (pss_one (ps_ret pe_bl))
      pss_nil)
      (pss_cons (ps_set (i := 6) scRg.nd rfl (Or.inl rfl) (pe_tup (pa_cons pe_non (pa_cons (pe_callTy call_tuple_of (by rfl) T.tuple (by decide +kernel) (pa_cons (pv 1) pa_nil)) (pa_cons (pe_callTy call_list_of (by rfl) T.list (by decide +kernel) (pa_cons (pv 1) pa_nil)) (pa_cons (pv 3) (pa_cons pe_str (pa_cons pe_int pa_nil))))))))
      (pss_cons (ps_if (pt_cmpR (op_neD hr.units) (pe_lc (own := [("_law_one", 10)]) (g := gName 10)  rfl scRg.nd (pi_tup (pv 6)) (blkOk_by (N := nRg) (sc := defScope sRg) (by decide +kernel)) (fun _ _ _ _ _ => pg_name (i := 10) scRg.nd rfl (Or.inl rfl)) (fun _ _ _ _ _ => pts_one (pt_cmpR (op_eqOK (K' := K) rfl GE bE pass0 hr1 hcu hE hEf) (pv 2) (pv 10) (nomark _))) (fun _ _ _ _ _ => pv 10)) (pe_lst pa_nil) (nomark _))
      (pss_one (ps_ret pe_bl))
      pss_nil)
      (pss_cons (ps_if (pt_cmpR (op_neD hr.units) (pv 1) (pe_lst pa_nil) (nomark _))
      (pss_cons (ps_set (i := 7) scRg.nd rfl (Or.inl rfl) (pe_call GN hr7 (by rfl) NW.m NW.F.kp NW.b .nil pass0 (pa_cons (pv 0) (pa_cons (pe_call GB hr3 (by rfl) BE.m BE.F.kp BE.b .nil pass0 (pa_cons (pv 0) (pa_cons (pv 1) pa_nil))) pa_nil))))
        (pss_one (ps_if (PW.pt (pw_or (pt_cmpR (op_eqOK (K' := K) rfl GE bE pass0 hr1 hcu hE hEf) (pv 2) (pv 7) (nomark _)) (pw_or1 (pt_cmpR (op_eqOK (K' := K) rfl GE bE pass0 hr1 hcu hE hEf) (pv 2) (pe_makeR0 M GI hr5 (by rfl) Y.mgC pass0) (nomark _)))))
        (pss_one (ps_ret pe_bl))
        pss_nil)))
      pss_nil)
      (pss_one (ps_ret (pe_cmpR op_eq (pe_cmpR (op_eqOK (K' := K) rfl GE bE pass0 hr1 hcu hE hEf) (pv 2) (pe_smeth0 (pe_glob (v := .ref C) rfl Y.mgC rfl) cR sP GPl bPl hr6 pass0) (nomark _)) (pe_cmpR (op_eqD hr.units) (pv 1) (pe_lst pa_nil) (nomark _)) (nomark _))))))))))))))), ?_⟩
    have hkl : (keys (ups rs)).length = rs.length + 2 := by
      rw [keys_ups, List.length_append, List.length_map]
      show 2 + rs.length = rs.length + 2
      omega
    have hvw : ∀ x ∈ keys (ups rs), VW x := by
      have := g.vw_known rs.length
      rw [← keys_ups_take, List.take_length] at this
      exact this
    have sok : ∀ x ∈ keys (ups rs), sOk x = true := fun x hx => (vw_ok (hvw x hx)).1
    have s8' : ∀ x ∈ keys (ups rs), x.length ≤ 8 := fun x hx => (vw_ok (hvw x hx)).2
    refine ⟨_, rfl, _, rfl, p, c, l, ns, n, ts, rs, rfl, P0, by omega, hl, R, g, h30, fun b H1 cb k1 P1 => ?_⟩
    have hl1 := k1 l _ hl nl
    have R1 := R.keep P0 k1
    -- names
    refine ⟨(by show 2 ≤ sizeLine; decide), fun l0 hl0 => ?_⟩
    have s2 : Same H1 (upd H1 l0 (.lst [V.str (Str.ofString "error"), V.str (Str.ofString "vacant")])) := (Same.refl H1).put hl0
    have e0 : (upd H1 l0 (.lst [V.str (Str.ofString "error"), V.str (Str.ofString "vacant")])) l0 = some (.lst [V.str (Str.ofString "error"), V.str (Str.ofString "vacant")]) := upd_same
    generalize upd H1 l0 (.lst [V.str (Str.ofString "error"), V.str (Str.ofString "vacant")]) = H2 at s2 e0 ⊢
    have hl2 := s2 l _ hl1
    have R2 := R1.mono fun q r e => s2 q _ e
    refine ⟨_, rfl, l, rfl, ⟨_, SqL.of hl2⟩, fun D hD => ?_⟩
    refine lc_list (K := K) (a := l) (xs := ts.map V.ref) (fun i Hx => Hx D = some (.lst (((rs.take i).map (·.1)).map V.str)) ∧ Same H2 Hx) ?_ ?_ ?_ ?_
    · exact ⟨upd_same, (Same.refl H2).put hD⟩
    · rintro i Hx _ ⟨_, sx⟩
      exact SqL.of (sx l _ hl2)
    · rintro i y Hx hy ⟨hDx, sx⟩
      have hil : i < rs.length := by
        have := (List.getElem?_eq_some_iff.mp hy).1
        rw [List.length_map, tl] at this
        exact this
      obtain ⟨t, r, e1, e2, _⟩ := R2.get hil
      rw [List.getElem?_map, e1] at hy
      cases hy
      have ht := sx t _ (R2.2 i t r e1 e2)
      obtain ⟨x, bs⟩ := r
      unfold rowO at ht
      refine ⟨rfl, _, rfl, t, _, _, _, rfl, rfl, SqT.of ht, atI_nat (j := 0) rfl, _, hDx, ?_, ?_, sx.put hD⟩
      · rw [List.length_map, List.length_map, List.length_take]; show _ < 16777216; omega
      · rw [upd_same, List.take_add_one, e2, List.map_append, List.map_append]
        rfl
    rintro H3 ⟨hD3, s3⟩
    rw [List.length_map, tl, List.take_length] at hD3
    refine ⟨l0, D, _, _, rfl, rfl, s3 l0 _ e0, hD3, by rw [List.length_map, List.length_map]; show 2 + _ ≤ 16777216; omega, fun nq hnq => ?_⟩
    have enm : [V.str (Str.ofString "error"), V.str (Str.ofString "vacant")] ++ ((rs.map (·.1)).map V.str) = (keys (ups rs)).map V.str := by
      rw [keys_ups, List.map_append]
      rfl
    rw [enm]
    have s4 : Same H3 (upd H3 nq (.lst ((keys (ups rs)).map V.str))) := (Same.refl H3).put hnq
    have e4 : (upd H3 nq (.lst ((keys (ups rs)).map V.str))) nq = some (.lst ((keys (ups rs)).map V.str)) := upd_same
    generalize upd H3 nq (.lst ((keys (ups rs)).map V.str)) = H4 at s4 e4 ⊢
    have s24 := s3.trans s4
    have s14 := s2.trans s24
    have lenm : ((keys (ups rs)).map V.str).length = rs.length + 2 := by rw [List.length_map, hkl]
    -- due
    refine ⟨_, rfl, l, _, rfl, .inl ⟨SqL.of (s14 l _ hl1), fun t1 ht1 => ?_⟩⟩
    have s5 : Same H4 (upd H4 t1 (.tup (ts.map V.ref))) := (Same.refl H4).put ht1
    have e5 : (upd H4 t1 (.tup (ts.map V.ref))) t1 = some (.tup (ts.map V.ref)) := upd_same
    generalize upd H4 t1 (.tup (ts.map V.ref)) = H5 at s5 e5 ⊢
    refine ⟨_, rfl, nq, _, rfl, .inl ⟨SqL.of (s5 nq _ e4), fun t2 ht2 => ?_⟩⟩
    have s6 : Same H5 (upd H5 t2 (.tup ((keys (ups rs)).map V.str))) := (Same.refl H5).put ht2
    have e6 : (upd H5 t2 (.tup ((keys (ups rs)).map V.str))) t2 = some (.tup ((keys (ups rs)).map V.str)) := upd_same
    generalize upd H5 t2 (.tup ((keys (ups rs)).map V.str)) = H6 at s6 e6 ⊢
    refine ⟨_, rfl, nq, _, rfl, .inl (SqL.of ((s5.trans s6) nq _ e4)), (by show 3 ≤ sizeLine; decide), fun t3 ht3 => ?_⟩
    rw [lenm]
    have s7 : Same H6 (upd H6 t3 (.tup [V.ref t1, V.ref t2, V.int ((rs.length + 2 : Nat) : Int)])) := (Same.refl H6).put ht3
    have e7 : (upd H6 t3 (.tup [V.ref t1, V.ref t2, V.int ((rs.length + 2 : Nat) : Int)])) t3 = some (.tup [V.ref t1, V.ref t2, V.int ((rs.length + 2 : Nat) : Int)]) := upd_same
    generalize upd H6 t3 (.tup [V.ref t1, V.ref t2, V.int ((rs.length + 2 : Nat) : Int)]) = H7 at s7 e7 ⊢
    have s17 := ((s14.trans s5).trans s6).trans s7
    have cb7 := cb.same s17
    have cb7' := cb7
    obtain ⟨dx, rr, nn, ll, kvs, ts', c1, _, _, c4, c5, c6⟩ := cb7
    refine ⟨_, rfl, b, C, dx, _, _, rfl, c1, Y.cl, Y.nR, flds_rows _ _ _, _, rfl, b, C, dx, _, _, rfl, c1, Y.cl, Y.nN, flds_names _ _ _, _, rfl, b, dx, _, rfl, c1, b, rs, rfl, cb7', rs.length + 2, rfl, by omega, (by show 3 ≤ sizeLine; decide), fun t4 ht4 => ?_⟩
    have n40 : rs.length + 2 ≤ 40 := by omega
    have s8 : Same H7 (upd H7 t4 (.tup [V.ref rr, V.ref nn, V.int ((rs.length + 2 : Nat) : Int)])) := (Same.refl H7).put ht4
    have e8 : (upd H7 t4 (.tup [V.ref rr, V.ref nn, V.int ((rs.length + 2 : Nat) : Int)])) t4 = some (.tup [V.ref rr, V.ref nn, V.int ((rs.length + 2 : Nat) : Int)]) := upd_same
    generalize upd H7 t4 (.tup [V.ref rr, V.ref nn, V.int ((rs.length + 2 : Nat) : Int)]) = H8 at s8 e8 ⊢
    have f3 : (d3 rs (keys (ups rs)) (rs.length + 2)).shown.length ≤ sizeLine := d3_fits fit (by omega) sok s8' (by omega) n40
    have dd3 : (d3 rs (keys (ups rs)) (rs.length + 2)).depth ≤ 8 := Nat.le_trans (d3_depth _ _ _) (by decide)
    have s48 := ((s5.trans s6).trans s7).trans s8
    have R8 := R1.mono fun q r e => (s14.trans s48) q _ e
    have p1 : DpAll K H8 [V.ref rr, V.ref nn, V.int ((rs.length + 2 : Nat) : Int)] [rowsD rs, tD (keys (ups rs)), .int ((rs.length + 2 : Nat) : Int)] :=
      .cons (.tup (SqT.of (s8 rr _ c5)) (rows_dp K rs ts' (c6.mono fun q r e => s8 q _ e))) (.cons (.tup (SqT.of (s8 nn _ c4)) (strs_dp K H8 (keys (ups rs)))) (.cons (.int _) .nil))
    have p2 : DpAll K H8 [V.ref t1, V.ref t2, V.int ((rs.length + 2 : Nat) : Int)] [rowsD rs, tD (keys (ups rs)), .int ((rs.length + 2 : Nat) : Int)] :=
      .cons (.tup (SqT.of (((s6.trans s7).trans s8) t1 _ e5)) (rows_dp K rs ts R8)) (.cons (.tup (SqT.of ((s7.trans s8) t2 _ e6)) (strs_dp K H8 (keys (ups rs)))) (.cons (.int _) .nil))
    refine ⟨t4, d3 rs (keys (ups rs)) (rs.length + 2), rfl, .tup (SqT.of e8) p1, d3_show _ _ n40, d3_nodict _ _ _, dd3, f3, ?_⟩
    refine ⟨_, rfl, t3, d3 rs (keys (ups rs)) (rs.length + 2), rfl, .tup (SqT.of (s8 t3 _ e7)) p2, d3_show _ _ n40, d3_nodict _ _ _, dd3, f3, rfl, _, rfl, iteNS rfl ?_⟩
    have s18 := s17.trans s8
    have cb8 := cb.same s18
    have hn8 := s48 nq _ e4
    -- each name is in
    refine ⟨_, rfl, nq, rfl, ⟨_, SqL.of hn8⟩, fun D2 hD2 => ?_⟩
    refine lc_list (K := K) (a := nq) (xs := (keys (ups rs)).map V.str) (fun i Hx => Hx D2 = some (.lst []) ∧ Same H8 Hx) ?_ ?_ ?_ ?_
    · exact ⟨upd_same, (Same.refl H8).put hD2⟩
    · rintro i Hx _ ⟨_, sx⟩
      exact SqL.of (sx nq _ hn8)
    · rintro i y Hx hy ⟨hDx, sx⟩
      obtain ⟨z, hz, e⟩ := List.mem_map.mp (List.mem_of_getElem? hy)
      subst e
      have cbx := cb8.same sx
      obtain ⟨dxx, fsx, hp1, _⟩ := cbx.ins
      refine ⟨rfl, _, rfl, _, rfl, b, dxx, fsx, rfl, hp1, b, _, rs, rfl, cbx, .inl ⟨z, rfl, _, rfl, _, _, rfl, rfl, _, rfl, ?_⟩⟩
      rw [decide_eq_true hz]
      exact iteF ⟨hDx, sx⟩
    rintro H9 ⟨hD9, s9⟩
    refine ⟨Nat.zero_le _, fun e1 he1 => ?_⟩
    have s10 : Same H9 (upd H9 e1 (.lst [])) := (Same.refl H9).put he1
    have hE1 : (upd H9 e1 (.lst [])) e1 = some (.lst []) := upd_same
    generalize upd H9 e1 (.lst []) = H10 at s10 hE1 ⊢
    refine ⟨.list [], .list [], .lst (SqL.of (s10 D2 _ hD9)) .nil, .lst (SqL.of hE1) .nil, rfl, rfl, _, rfl, iteF ?_⟩
    have s810 := s9.trans s10
    have cb10 := cb8.same s810
    have hn10 := s810 nq _ hn8
    -- others are not in
    refine ⟨_, rfl, nq, keys (ups rs), rfl, hn10, by rw [← List.length_pos_iff, hkl]; omega, by omega, s8', fun q xs H11 hq11 hxl hox s11 => ?_⟩
    refine ⟨q, rfl, ⟨_, SqL.of hq11⟩, fun D3 hD3' => ?_⟩
    refine lc_list (K := K) (a := q) (xs := xs) (fun i Hx => Hx D3 = some (.lst []) ∧ Same H11 Hx) ?_ ?_ ?_ ?_
    · exact ⟨upd_same, (Same.refl H11).put hD3'⟩
    · rintro i Hx _ ⟨_, sx⟩
      exact SqL.of (sx q _ hq11)
    · rintro i y Hx hy ⟨hDx, sx⟩
      have oy := (hox y (List.mem_of_getElem? hy)).same sx
      have cbx := cb10.same (s11.trans sx)
      obtain ⟨dxx, fsx, hp1, _⟩ := cbx.ins
      rcases oy with ⟨z, rfl, hz⟩ | ⟨t, hN⟩
      · refine ⟨rfl, _, rfl, _, rfl, b, dxx, fsx, rfl, hp1, b, _, rs, rfl, cbx, .inl ⟨z, rfl, _, rfl, _, _, rfl, rfl, _, rfl, ?_⟩⟩
        rw [decide_eq_false hz]
        exact iteF ⟨hDx, sx⟩
      · exact ⟨rfl, _, rfl, _, rfl, b, dxx, fsx, rfl, hp1, b, _, rs, rfl, cbx, .inr ⟨_, hN.ty, hN.kit, _, rfl, _, _, rfl, rfl, _, rfl, iteF ⟨hDx, sx⟩⟩⟩
    rintro H12 ⟨hD12, s12⟩
    refine ⟨Nat.zero_le _, fun e2 he2 => ?_⟩
    have s13 : Same H12 (upd H12 e2 (.lst [])) := (Same.refl H12).put he2
    have hE2 : (upd H12 e2 (.lst [])) e2 = some (.lst []) := upd_same
    generalize upd H12 e2 (.lst []) = H13 at s13 hE2 ⊢
    refine ⟨.list [], .list [], .lst (SqL.of (s13 D3 _ hD12)) .nil, .lst (SqL.of hE2) .nil, rfl, rfl, _, rfl, iteF ?_⟩
    have s1013 := (s11.trans s12).trans s13
    have s113 := (s18.trans s810).trans s1013
    have K13 := k1.trans s113.keep
    have P13 := P1.same s113
    have cb13 := cb10.same s1013
    have hl13 := K13 l _ hl nl
    have hn13 := s1013 nq _ hn10
    have nnq : nq ≠ p := P13.strs_ne hn13
    -- made once more
    refine ⟨_, rfl, _, rfl, p, c, l, ns, n + 40, ts, rs, rfl, P13, by omega, hl13, R.keep P0 K13, g, h30, fun b2 H14 cb2 k14 P14 => ?_⟩
    have cb14 := cb13.kp k14 P13
    obtain ⟨dx1, fs1, hp1, _⟩ := cb14.ins
    obtain ⟨dx2, fs2, hp2, _⟩ := cb2.ins
    have dt : decide (rs = rs) = true := decide_eq_true rfl
    refine ⟨_, rfl, _, rfl, b, dx1, fs1, rfl, hp1, right_own cb2 Y.cl O, b, _, rs, rfl, cb14, fit, .inl ⟨b2, rs, rfl, cb2, fit, _, rfl, ?_⟩⟩
    refine ⟨_, rfl, _, rfl, b2, dx2, fs2, rfl, hp2, right_own cb14 Y.cl O, b2, _, rs, rfl, cb2, fit, .inl ⟨b, rs, rfl, cb14, fit, _, rfl, ?_⟩⟩
    refine ⟨_, rfl, _, rfl, b, b2, dx1, fs1, dx2, fs2, rfl, rfl, hp1, hp2, b, _, rs, rfl, cb14, fit, .inl ⟨b2, rs, rfl, cb2, fit, _, rfl, ?_⟩⟩
    rw [dt]
    refine ⟨(by show 3 ≤ sizeLine; decide), fun l5 hl5 => ?_⟩
    have hz : (boolsD [true, true, false]).shown.length ≤ sizeLine := bools_size _ (by show 3 ≤ 1000; decide)
    refine ⟨l5, [true, true, false], rfl, SqL.of upd_same, hz, ?_⟩
    have s15 : Same H14 (upd H14 l5 (.lst [V.bl true, V.bl true, V.bl (!true)])) := (Same.refl H14).put hl5
    have e15 : (upd H14 l5 (.lst [V.bl true, V.bl true, V.bl (!true)])) l5 = some (.lst ([true, true, false].map V.bl)) := upd_same
    generalize upd H14 l5 (.lst [V.bl true, V.bl true, V.bl (!true)]) = H15 at s15 e15 ⊢
    refine ⟨(by show 3 ≤ sizeLine; decide), fun l6 hl6 => ?_⟩
    have s16 : Same H15 (upd H15 l6 (.lst [V.bl true, V.bl true, V.bl false])) := (Same.refl H15).put hl6
    have e16 : (upd H15 l6 (.lst [V.bl true, V.bl true, V.bl false])) l6 = some (.lst ([true, true, false].map V.bl)) := upd_same
    generalize upd H15 l6 (.lst [V.bl true, V.bl true, V.bl false]) = H16 at s16 e16 ⊢
    refine ⟨l6, [true, true, false], rfl, SqL.of e16, hz, rfl, _, rfl, iteNS rfl ?_⟩
    have s1416 := s15.trans s16
    have K16 := (K13.trans k14).trans s1416.keep
    have hl16 := K16 l _ hl nl
    have P16 := P14.same s1416
    have cb16 := cb14.same s1416
    have hn16 := s1416 nq _ (k14 nq _ hn13 nnq)
    -- some
    refine ⟨_, rfl, l, _, rfl, .inl ⟨SqL.of hl16, fun t5 ht5 => ?_⟩⟩
    have s17' : Same H16 (upd H16 t5 (.tup (ts.map V.ref))) := (Same.refl H16).put ht5
    have e17 : (upd H16 t5 (.tup (ts.map V.ref))) t5 = some (.tup (ts.map V.ref)) := upd_same
    generalize upd H16 t5 (.tup (ts.map V.ref)) = H17 at s17' e17 ⊢
    refine ⟨_, rfl, l, _, rfl, .inl (SqL.of (s17' l _ hl16)), fun l7 hl7 => ?_⟩
    have s18' : Same H17 (upd H17 l7 (.lst (ts.map V.ref))) := (Same.refl H17).put hl7
    have e18 : (upd H17 l7 (.lst (ts.map V.ref))) l7 = some (.lst (ts.map V.ref)) := upd_same
    generalize upd H17 l7 (.lst (ts.map V.ref)) = H18 at s18' e18 ⊢
    refine ⟨_, rfl, (by show 6 ≤ sizeLine; decide), fun t6 ht6 => ?_⟩
    have s19 : Same H18 (upd H18 t6 (.tup [V.non, V.ref t5, V.ref l7, V.ref nq, V.str (Str.ofString "error"), V.int 0])) := (Same.refl H18).put ht6
    have e19 : (upd H18 t6 (.tup [V.non, V.ref t5, V.ref l7, V.ref nq, V.str (Str.ofString "error"), V.int 0])) t6 = some (.tup [V.non, V.ref t5, V.ref l7, V.ref nq, V.str (Str.ofString "error"), V.int 0]) := upd_same
    generalize upd H18 t6 (.tup [V.non, V.ref t5, V.ref l7, V.ref nq, V.str (Str.ofString "error"), V.int 0]) = H19 at s19 e19 ⊢
    have s1619 := (s17'.trans s18').trans s19
    have cb19 := cb16.same s1619
    have t5x := (s18'.trans s19) t5 _ e17
    have l7x := s19 l7 _ e18
    have nqx := s1619 nq _ hn16
    have kN : PySem.W.notFirst K C (.type "NoneType") = true := nf_ty (l := ["NoneType", "object"]) (by decide +kernel)
    have kT : PySem.W.notFirst K C (.type "tuple") = true := nf_ty (l := ["tuple", "object"]) (by decide +kernel)
    have kL : PySem.W.notFirst K C (.type "list") = true := nf_ty (l := ["list", "object"]) (by decide +kernel)
    have kS : PySem.W.notFirst K C (.type "str") = true := nf_ty (l := ["str", "object"]) (by decide +kernel)
    have kI : PySem.W.notFirst K C (.type "int") = true := nf_ty (l := ["int", "object"]) (by decide +kernel)
    refine ⟨_, rfl, t6, rfl, ⟨_, SqT.of e19⟩, fun D4 hD4 => ?_⟩
    refine lc_tup (K := K) (a := t6) (xs := [V.non, V.ref t5, V.ref l7, V.ref nq, V.str (Str.ofString "error"), V.int 0]) (fun i Hx => Hx D4 = some (.lst []) ∧ Same H19 Hx) ?_ ?_ ?_ ?_
    · exact ⟨upd_same, (Same.refl H19).put hD4⟩
    · rintro i Hx _ ⟨_, sx⟩
      exact SqT.of (sx t6 _ e19)
    · rintro i y Hx hy ⟨hDx, sx⟩
      have cbx := cb19.same sx
      obtain ⟨dxx, fsx, hq1, _⟩ := cbx.ins
      obtain ⟨t, ht, hk, hf⟩ : ∃ t, TyX K Hx y t ∧ PySem.W.kitOne K t (.ref C) = some false ∧ PySem.W.notFirst K C t = true := by
        have hm := List.mem_of_getElem? hy
        simp only [List.mem_cons, List.not_mem_nil, or_false] at hm
        rcases hm with rfl | rfl | rfl | rfl | rfl | rfl
        · exact ⟨_, .base .non, Z.kN, kN⟩
        · exact ⟨_, .base (.tup (sx t5 _ t5x)), Z.kT, kT⟩
        · exact ⟨_, .base (.lst (sx l7 _ l7x)), Z.kL, kL⟩
        · exact ⟨_, .base (.lst (sx nq _ nqx)), Z.kL, kL⟩
        · exact ⟨_, .base (.str _), Z.kS, kS⟩
        · exact ⟨_, .base (.int _), Z.kI, kI⟩
      exact ⟨rfl, _, rfl, _, rfl, b, dxx, fsx, rfl, hq1, ⟨t, ht, hf⟩, b, _, rs, rfl, cbx, fit, .inr ⟨t, ht, hk, _, rfl, _, rfl, iteF ⟨hDx, sx⟩⟩⟩
    rintro H20 ⟨hD20, s20⟩
    refine ⟨Nat.zero_le _, fun e3 he3 => ?_⟩
    have s21 : Same H20 (upd H20 e3 (.lst [])) := (Same.refl H20).put he3
    have hE3 : (upd H20 e3 (.lst [])) e3 = some (.lst []) := upd_same
    generalize upd H20 e3 (.lst []) = H21 at s21 hE3 ⊢
    refine ⟨.list [], .list [], .lst (SqL.of (s21 D4 _ hD20)) .nil, .lst (SqL.of hE3) .nil, rfl, rfl, _, rfl, iteF ?_⟩
    have s1921 := s20.trans s21
    have K21 := K16.trans (s1619.trans s1921).keep
    have P21 := P16.same (s1619.trans s1921)
    have cb21 := cb19.same s1921
    have hl21 := K21 l _ hl nl
    -- lines != []
    refine ⟨_, rfl, Nat.zero_le _, fun e4 he4 => ?_⟩
    have s22 : Same H21 (upd H21 e4 (.lst [])) := (Same.refl H21).put he4
    have hE4 : (upd H21 e4 (.lst [])) e4 = some (.lst []) := upd_same
    generalize upd H21 e4 (.lst []) = H22 at s22 hE4 ⊢
    have K22 := K21.trans s22.keep
    have P22 := P21.same s22
    have cb22 := cb21.same s22
    have hl22 := K22 l _ hl nl
    refine ⟨rowsLD rs, .list [], .lst (SqL.of hl22) (rows_dp K rs ts (R.keep P0 K22)), .lst (SqL.of hE4) .nil, rowsL_shaped fit, rfl, _, rfl, ?_⟩
    rw [rows_eqv0]
    refine ite2 (fun hne => ?b1) (fun he => ?b2)
    case' b1 =>
      have hne : rs ≠ [] := fun e => by
        rw [decide_eq_true e] at hne
        cases hne
      refine ⟨_, rfl, _, rfl, _, rfl, p, c, l, ns, n + 80, ts, rs, rfl, P22.mono (by omega), by omega, hl22, R.keep P0 K22, g, h30, hne, fun q5 ts5 qs5 H23 hq5 R5 g5 h5 ne5 k23 P23 => ?_⟩
      refine ⟨p, c, q5, ns, n + 80 + 5, ts5, qs5, rfl, P23, by omega, hq5, R5, g5, h5, fun b5 H24 cb5 k24 P24 => ?_⟩
      have cb24 := (cb22.kp k23 P22).kp k24 P23
      obtain ⟨dxa, fsa, ha1, _⟩ := cb24.ins
      refine ⟨_, rfl, _, rfl, b, dxa, fsa, rfl, ha1, right_own cb5 Y.cl O, b, _, rs, rfl, cb24, fit, .inl ⟨b5, qs5, rfl, cb5, g5.fit h5, _, rfl, _, rfl, ?_⟩⟩
      rw [decide_eq_false (fun e => ne5 e.symm)]
      refine iteF ?_
      refine ⟨_, rfl, fun y dy ny ndy _ => ⟨[V.ref y], [], rfl, rfl, (by show 0 ≤ 16777216; decide), fun pt hpt => ⟨y, dy, pt, [], [], rfl, (init_facts ny ndy hpt).2, upd_same, rowsAt_nil _, good_nil, (by show 0 ≤ 30; decide), fun H25 cb6 kp => ⟨rfl, ?_⟩⟩⟩⟩
      have s25 : Same H24 H25 := fun q o e => kp q o ((init_facts ny ndy hpt).1 q o e) (ne_of_none e ny)
      have cb25 := cb24.same s25
      obtain ⟨dxb, fsb, hb1, _⟩ := cb25.ins
      refine ⟨b, dxb, fsb, rfl, hb1, right_own cb6 Y.cl O, b, _, rs, rfl, cb25, fit, .inl ⟨y, [], rfl, cb6, fun r h => (by cases h), _, rfl, _, rfl, ?_⟩⟩
      rw [decide_eq_false hne]
      refine iteF ?_
      have KF := ((K22.trans k23).trans k24).trans s25.keep
      have PF : Pen H25 p c ns (n + 200) := (P24.same s25).mono (by omega)
      have cbF := cb25
      generalize H25 = HF at KF PF cbF ⊢
    case' b2 =>
      have KF := K22
      have PF : Pen H22 p c ns (n + 200) := P22.mono (by omega)
      have cbF := cb22
      generalize H22 = HF at KF PF cbF ⊢
    all_goals
      refine ⟨_, rfl, rfl, rfl, fun y HG cbY sG => ?_⟩
      have cbG := cbF.same sG
      have KG := KF.trans sG.keep
      have PG := PF.same sG
      have hlG := KG l _ hl nl
      obtain ⟨dxg, fsg, hg1, _⟩ := cbG.ins
      refine ⟨b, dxg, fsg, rfl, hg1, right_own cbY Y.cl O, b, _, rs, rfl, cbG, fit, .inl ⟨y, [], rfl, cbY, fun r h => (by cases h), _, rfl, ?_⟩⟩
      refine ⟨_, rfl, Nat.zero_le _, fun e9 he9 => ?_⟩
      have s99 : Same HG (upd HG e9 (.lst [])) := (Same.refl HG).put he9
      have hE9 : (upd HG e9 (.lst [])) e9 = some (.lst []) := upd_same
      generalize upd HG e9 (.lst []) = HH at s99 hE9 ⊢
      have KH := KG.trans s99.keep
      refine ⟨rowsLD rs, .list [], .lst (SqL.of (KH l _ hl nl)) (rows_dp K rs ts (R.keep P0 KH)), .lst (SqL.of hE9) .nil, rowsL_shaped fit, rfl, ?_⟩
      rw [rows_eqv0]
      refine ⟨rfl, ?_⟩
      rw [decide_eq_true rfl]
      exact k _ KH (PG.same s99)
end
end K2
end
section
set_option Elab.async false
set_option maxRecDepth 100000
set_option linter.all false
namespace K2
open PySem L2 PySem.Spec PyProof.Rows
abbrev sGr : Stmt := top 30
abbrev nGr : List Str := ["_law_pen_here", "_law_lines", "_law_built", "_law_names", "_law_fresh", "_law_line", "_law_later", "_law_word"]
def frs : List Str := [Str.ofString "ne", Str.ofString "newer", Str.ofString "neweston"]
theorem vw_frs : ∀ x ∈ frs, VW x := by
  intro x hx
  unfold frs at hx
  simp only [List.mem_cons, List.not_mem_nil, or_false] at hx
  rcases hx with rfl | rfl | rfl
  · exact ⟨by unfold Low; decide +kernel, by decide +kernel, by decide +kernel, by decide +kernel⟩
  · exact ⟨by unfold Low; decide +kernel, by decide +kernel, by decide +kernel, by decide +kernel⟩
  · exact ⟨by unfold Low; decide +kernel, by decide +kernel, by decide +kernel, by decide +kernel⟩
theorem fr_base : Str.ofString "ne" ∉ base0 ∧ Str.ofString "newer" ∉ base0 := by decide +kernel
theorem fr_has {nm : List Str} (h : Str.ofString "ne" ∉ nm ∨ Str.ofString "newer" ∉ nm) : ∃ x rest, (frs.filter fun y => decide (y ∉ nm)) = x :: rest ∧ x ∉ nm ∧ VW x := by
  have ne : (frs.filter fun y => decide (y ∉ nm)) ≠ [] := by
    rcases h with h | h
    · exact List.ne_nil_of_mem (List.mem_filter.mpr ⟨by unfold frs; simp, decide_eq_true h⟩)
    · exact List.ne_nil_of_mem (List.mem_filter.mpr ⟨by unfold frs; simp, decide_eq_true h⟩)
  cases e : (frs.filter fun y => decide (y ∉ nm)) with
  | nil => exact absurd e ne
  | cons x rest =>
    have hx : x ∈ frs.filter fun y => decide (y ∉ nm) := by rw [e]; simp
    have q := List.mem_filter.mp hx
    exact ⟨x, rest, rfl, of_decide_eq_true q.2, vw_frs x q.1⟩
def spGr : Sp := fun vs H Q _ => ∃ (p c l : Addr) (ns : List Int) (n : Nat) (ts : List Addr) (rs : List Row), vs = [.ref p, .ref l] ∧ Pen H p c ns n ∧ n + 100 ≤ 100000 ∧ H l = some (.lst (ts.map V.ref)) ∧ RowsAt H ts rs ∧ Good rs ∧ rs.length < 30 ∧ (Str.ofString "ne" ∉ rs.map (·.1) ∨ Str.ofString "newer" ∉ rs.map (·.1)) ∧
  ∀ H', Keep p H H' → Pen H' p c ns (n + 10) → Q (.bl true) H'
section
variable {P : Program} {w : World} {K : PySem.W.Frag} {mg : Str → Option Value} {base : Heap}
theorem scGr : FnScope nGr ["_law_pen_here", "_law_lines"] (defScope sGr) := ⟨rfl, rfl, rfl, by decide +kernel, rfl, by decide +kernel, by decide +kernel⟩
set_option maxHeartbeats 1000000 in
theorem ok_gr {f fP fE fCo fLn fWR fM pM C : Addr} {mc : Value} {fd fdP fdE fdCo fdLn fdM : FuncData} (F : Fun K "_law_grown_right" "_law_grown_right" sGr f fd) (T : Bi mg) (Y : Txt K mg C) (O : Own K C)
    (PK : Df K mg "_law_pick" sPick fP fdP ["_law_pen_here", "_law_some"]) (GP : FnOk P w K mg base CX0 2 fP fdP ["_law_pen_here", "_law_some"] spPick)
    (GE : FnOk P w K mg base CX0 1 fE fdE ["self", "other"] (spEqC K C)) (bE : Binds K fdE ["self", "other"] []) (hE : PySem.W.findIn K (.ref C) "__eq__" = some (some (.ref fE))) (hEf : PySem.W.isFn K (.ref fE) = true)
    (GCo : FnOk P w K mg base CX0 1 fCo fdCo ["self", "x"] (spCo K C)) (bCo : Binds K fdCo ["self", "x"] []) (hCo : PySem.W.findIn K (.ref C) "__contains__" = some (some (.ref fCo))) (hCof : PySem.W.isFn K (.ref fCo) = true)
    (GLn : FnOk P w K mg base CX0 1 fLn fdLn ["self"] (spLenC C)) (bLn : Binds K fdLn ["self"] []) (hLn : PySem.W.findIn K (.ref C) "__len__" = some (some (.ref fLn))) (hLnf : PySem.W.isFn K (.ref fLn) = true)
    (mWR : Meth K C "with_rows" fWR) (GWR : FnR P w K mg base CX0 6 fWR (spWRr C)) (cR : ClX.CRead K C mc) (cM : ClX.CMet K C mc "made" pM fM) (GM : FnOk P w K mg base CX0 6 fM fdM ["cls", "rows"] (spMade C)) (bM : Binds K fdM ["cls", "rows"] []) :
    FnG P w K mg base 8 f fd ["_law_pen_here", "_law_lines"] spGr := by
  refine okG F scGr (fun vs H Q E h => ?_) (fun cdv A outer s H vs Q E hr gu h => ?_)
  · obtain ⟨p, c, l, ns, n, ts, rs, rfl, _⟩ := h
    rfl
  · obtain ⟨p, c, l, ns, n, ts, rs, rfl, P0, hn, hl, R, g, h30, hfr, k⟩ := h
    have hu := hu_of hr
    have hr6 : Room 6 _ := hr.mono (by decide)
    have hr2 : Room 2 _ := hr.mono (by decide)
    have hr1 : Room 1 _ := hr.mono (by decide)
    have hcu := Nat.lt_of_succ_lt hu
    have nl := P0.refs_ne hl
    have tl : ts.length = rs.length := R.1
    have fit := g.fit (Nat.le_of_lt h30)
    refine ⟨_, (pss_cons (ps_set (i := 2) scGr.nd rfl (Or.inl rfl) (ClX.pe_cmeth (pe_glob (v := .ref C) rfl Y.mgC rfl) cR cM (GM.raw bM .nil) hr6 pass0 (pa_cons (pv 1) pa_nil)))
      (pss_cons (ps_set (i := 3) scGr.nd rfl (Or.inr rfl) (pe_op op_cat (pe_lst (pa_cons pe_str (pa_cons pe_str pa_nil))) (pe_lc (own := [("_law_line", 5)]) (g := gName 5) (tt := tYes) rfl scGr.nd (pi_list (pv 1)) (blkOk_by (N := nGr) (sc := defScope sGr) (by decide +kernel)) (fun _ _ _ _ _ => pg_name (i := 5) scGr.nd rfl (Or.inl rfl)) (fun _ _ _ _ _ => pts_nil) (fun _ _ _ _ _ => pe_ix (ix_tupK (K' := K) rfl) (pv 5) pe_int (fun _ _ => rfl)))))
      (pss_cons (ps_set (i := 4) scGr.nd rfl (Or.inl rfl) (pe_ix ix_list (pe_lc (own := [("_law_word", 7)]) (g := gName 7)  rfl scGr.nd (pi_tup (pe_tup (pa_cons pe_str (pa_cons pe_str (pa_cons pe_str pa_nil))))) (blkOk_by (N := nGr) (sc := defScope sGr) (by decide +kernel)) (fun _ _ _ _ _ => pg_name (i := 7) scGr.nd rfl (Or.inl rfl)) (fun _ _ _ _ _ => pts_one (pt_cmpR (op_notIn_seqK (K' := K) rfl) (pv 7) (pv 3) rfl)) (fun _ _ _ _ _ => pv 7)) pe_int (fun _ _ => rfl)))
      (pss_cons (ps_set (i := 5) scGr.nd rfl (Or.inl rfl) (pe_tup (pa_cons (pv 4) (pa_cons (pe_call GP hr2 (by rfl) PK.m PK.F.kp PK.b .nil pass0 (pa_cons (pv 0) (pa_cons (pv 3) pa_nil))) pa_nil))))
      (pss_cons (ps_set (i := 6) scGr.nd rfl (Or.inl rfl) (L2.pe_methR (pv 2) Y.cl mWR GWR hr6 pass0 (pa_cons (pv 5) pa_nil)))
      (pss_cons (ps_if (pt_cmpR op_ne (pe_callB (call_reprD gu hr.units) (by rfl) T.repr (by decide +kernel)  (pa_cons (pe_fld (pv 6) rfl) pa_nil)) (pe_callB (call_reprD gu hr.units) (by rfl) T.repr (by decide +kernel)  (pa_cons (pe_op op_cat2 (pe_callTy call_tuple_of (by rfl) T.tuple (by decide +kernel) (pa_cons (pv 1) pa_nil)) (pe_tup (pa_cons (pv 5) pa_nil))) pa_nil)) (nomark _))
      (pss_one (ps_ret pe_bl))
      pss_nil)
      (pss_cons (ps_if (pt_cmpR op_ne (pe_callB (call_reprD gu hr.units) (by rfl) T.repr (by decide +kernel)  (pa_cons (pe_fld (pv 2) rfl) pa_nil)) (pe_callB (call_reprD gu hr.units) (by rfl) T.repr (by decide +kernel)  (pa_cons (pe_callTy call_tuple_of (by rfl) T.tuple (by decide +kernel) (pa_cons (pv 1) pa_nil)) pa_nil)) (nomark _))
      (pss_one (ps_ret pe_bl))
      pss_nil)
      (pss_cons (ps_if (PW.pt (pw_or (pt_cmpR (op_eqOK (K' := K) rfl GE bE pass0 hr1 hcu hE hEf) (pv 6) (pv 2) (nomark _)) (pw_or (pt_cmpR (op_inO GCo bCo pass0 hr1 hCo hCof) (pv 4) (pv 2) rfl) (pw_or1 (pt_cmpR op_notBl (pe_cmpR (op_inO GCo bCo pass0 hr1 hCo hCof) (pv 4) (pv 6) rfl) pe_bl (nomark _))))))
      (pss_one (ps_ret pe_bl))
      pss_nil)
      (pss_one (ps_ret (pe_and (pe_cmpR (op_eqOK (K' := K) rfl GE bE pass0 hr1 hcu hE hEf) (pe_methR0 (pv 2) Y.cl mWR GWR hr6 pass0) (pv 2) (nomark _)) (pe_one (pe_cmpR op_eq (pe_callB (call_lenO GLn bLn pass0 hr2 hLn hLnf) (by rfl) T.len PySem.boot_len (pa_cons (pv 6) pa_nil)) (pe_op op_add (pe_callB (call_lenO GLn bLn pass0 hr2 hLn hLnf) (by rfl) T.len PySem.boot_len (pa_cons (pv 2) pa_nil)) pe_int) (nomark _)))))))))))))), ?_⟩
    have hkl : (keys (ups rs)).length = rs.length + 2 := by
      rw [keys_ups, List.length_append, List.length_map]
      show 2 + rs.length = rs.length + 2
      omega
    refine ⟨rfl, _, rfl, l, ts, rs, rfl, .inl hl, R, g, by omega, fun b H1 cb s1 => ?_⟩
    have hl1 := s1 l _ hl
    have R1 := R.mono fun q r e => s1 q _ e
    -- names
    refine ⟨(by show 2 ≤ sizeLine; decide), fun l0 hl0 => ?_⟩
    have s2 : Same H1 (upd H1 l0 (.lst [V.str (Str.ofString "error"), V.str (Str.ofString "vacant")])) := (Same.refl H1).put hl0
    have e0 : (upd H1 l0 (.lst [V.str (Str.ofString "error"), V.str (Str.ofString "vacant")])) l0 = some (.lst [V.str (Str.ofString "error"), V.str (Str.ofString "vacant")]) := upd_same
    generalize upd H1 l0 (.lst [V.str (Str.ofString "error"), V.str (Str.ofString "vacant")]) = H2 at s2 e0 ⊢
    have hl2 := s2 l _ hl1
    have R2 := R1.mono fun q r e => s2 q _ e
    refine ⟨_, rfl, l, rfl, ⟨_, SqL.of hl2⟩, fun D hD => ?_⟩
    refine lc_list (K := K) (a := l) (xs := ts.map V.ref) (fun i Hx => Hx D = some (.lst (((rs.take i).map (·.1)).map V.str)) ∧ Same H2 Hx) ?_ ?_ ?_ ?_
    · exact ⟨upd_same, (Same.refl H2).put hD⟩
    · rintro i Hx _ ⟨_, sx⟩
      exact SqL.of (sx l _ hl2)
    · rintro i y Hx hy ⟨hDx, sx⟩
      have hil : i < rs.length := by
        have := (List.getElem?_eq_some_iff.mp hy).1
        rw [List.length_map, tl] at this
        exact this
      obtain ⟨t, r, e1, e2, _⟩ := R2.get hil
      rw [List.getElem?_map, e1] at hy
      cases hy
      have ht := sx t _ (R2.2 i t r e1 e2)
      obtain ⟨x, bs⟩ := r
      unfold rowO at ht
      refine ⟨rfl, _, rfl, t, _, _, _, rfl, rfl, SqT.of ht, atI_nat (j := 0) rfl, _, hDx, ?_, ?_, sx.put hD⟩
      · rw [List.length_map, List.length_map, List.length_take]; show _ < 16777216; omega
      · rw [upd_same, List.take_add_one, e2, List.map_append, List.map_append]
        rfl
    rintro H3 ⟨hD3, s3⟩
    rw [List.length_map, tl, List.take_length] at hD3
    refine ⟨l0, D, _, _, rfl, rfl, s3 l0 _ e0, hD3, by rw [List.length_map, List.length_map]; show 2 + _ ≤ 16777216; omega, fun nq hnq => ?_⟩
    have enm : [V.str (Str.ofString "error"), V.str (Str.ofString "vacant")] ++ ((rs.map (·.1)).map V.str) = (keys (ups rs)).map V.str := by
      rw [keys_ups, List.map_append]
      rfl
    rw [enm]
    have s4 : Same H3 (upd H3 nq (.lst ((keys (ups rs)).map V.str))) := (Same.refl H3).put hnq
    have e4 : (upd H3 nq (.lst ((keys (ups rs)).map V.str))) nq = some (.lst ((keys (ups rs)).map V.str)) := upd_same
    generalize upd H3 nq (.lst ((keys (ups rs)).map V.str)) = H4 at s4 e4 ⊢
    have s14 := s2.trans (s3.trans s4)
    have hfrk : Str.ofString "ne" ∉ keys (ups rs) ∨ Str.ofString "newer" ∉ keys (ups rs) := by
      rw [keys_ups]
      rcases hfr with h | h
      · exact .inl fun m => (List.mem_append.mp m).elim fr_base.1 h
      · exact .inr fun m => (List.mem_append.mp m).elim fr_base.2 h
    obtain ⟨x, rest, ex, hxn, hvx⟩ := fr_has hfrk
    have hvw : ∀ y ∈ keys (ups rs), VW y := by
      have := g.vw_known rs.length
      rw [← keys_ups_take, List.take_length] at this
      exact this
    have hkn : keys (ups rs) ≠ [] := by rw [← List.length_pos_iff, hkl]; omega
    have hks : keys (ups rs) = base0 ++ rs.map (·.1) := keys_ups rs
    generalize hnm : keys (ups rs) = nm at e4 hkl hfrk ex hxn hvw hkn hks ⊢
    -- fresh
    refine ⟨(by show 3 ≤ sizeLine; decide), fun t0 ht0 => ⟨t0, rfl, ⟨_, SqT.of upd_same⟩, fun D2 hD2 => ?_⟩⟩
    have s5 : Same H4 (upd H4 t0 (.tup [V.str (Str.ofString "ne"), V.str (Str.ofString "newer"), V.str (Str.ofString "neweston")])) := (Same.refl H4).put ht0
    have e5 : (upd H4 t0 (.tup [V.str (Str.ofString "ne"), V.str (Str.ofString "newer"), V.str (Str.ofString "neweston")])) t0 = some (.tup (frs.map V.str)) := upd_same
    generalize upd H4 t0 (.tup [V.str (Str.ofString "ne"), V.str (Str.ofString "newer"), V.str (Str.ofString "neweston")]) = H5 at s5 e5 hD2 ⊢
    have hn5 := s5 nq _ e4
    refine lc_tup (K := K) (a := t0) (xs := frs.map V.str) (fun i Hx => Hx D2 = some (.lst (((frs.take i).filter fun y => decide (y ∉ nm)).map V.str)) ∧ Same H5 Hx) ?_ ?_ ?_ ?_
    · exact ⟨upd_same, (Same.refl H5).put hD2⟩
    · rintro i Hx _ ⟨_, sx⟩
      exact SqT.of (sx t0 _ e5)
    · rintro i y Hx hy ⟨hDx, sx⟩
      have hil : i < frs.length := by
        have := (List.getElem?_eq_some_iff.mp hy).1
        rwa [List.length_map] at this
      have hzi : frs[i]? = some frs[i] := List.getElem?_eq_getElem hil
      rw [List.getElem?_map, hzi] at hy
      have et : frs.take (i + 1) = frs.take i ++ [frs[i]] := by rw [List.take_add_one, hzi]; rfl
      generalize frs[i] = z at hzi hy et
      cases hy
      have h3 : i < 3 := hil
      have fl : ((frs.take i).filter fun y => decide (y ∉ nm)).length ≤ i := Nat.le_trans (List.length_filter_le _ _) (by rw [List.length_take]; omega)
      refine ⟨rfl, _, rfl, _, rfl, nq, _, rfl, .inl (SqL.of (sx nq _ hn5)), rfl, flat_strs _, _, rfl, ?_⟩
      rw [if_pos rfl, inV_strs]
      refine ite2 (fun h => ⟨_, rfl, _, hDx, ?_, ?_, sx.put hD2⟩) (fun h => ⟨?_, sx⟩)
      · rw [List.length_map]; show _ < 16777216; omega
      · rw [upd_same, et, List.filter_append, List.filter_cons, if_pos (by simpa using h), List.map_append]
        rfl
      · rw [et, List.filter_append, List.filter_cons, if_neg (by simpa using h), List.filter_nil, List.append_nil]
        exact hDx
    rintro H6 ⟨hD6, s6⟩
    rw [List.length_map, List.take_length, ex] at hD6
    refine ⟨D2, _, _, _, rfl, rfl, SqL.of hD6, atI_nat (j := 0) rfl, ?_⟩
    have s16 := s14.trans (s5.trans s6)
    have P6 := P0.same (s1.trans s16)
    have hn6 := (s5.trans s6) nq _ e4
    have nnq : nq ≠ p := P6.strs_ne hn6
    -- line
    refine ⟨_, rfl, _, rfl, _, rfl, p, c, ns, n, _, _, rfl, P6, by omega, .inl ⟨nq, rfl, nnq, hn6⟩, fun e => hkn (List.map_eq_nil_iff.mp e), by rw [List.length_map]; omega, fun j v H7 hv k7 P7 => ?_⟩
    obtain ⟨z, hz, rfl⟩ : ∃ z ∈ nm, v = V.str z := by
      obtain ⟨z, hz, e⟩ := List.mem_map.mp (List.mem_of_getElem? hv)
      exact ⟨z, hz, e.symm⟩
    refine ⟨(by show 2 ≤ sizeLine; decide), fun tq htq => ?_⟩
    have s8 : Same H7 (upd H7 tq (.tup [V.str x, V.str z])) := (Same.refl H7).put htq
    have e8 : (upd H7 tq (.tup [V.str x, V.str z])) tq = some (rowO (x, [z])) := upd_same
    generalize upd H7 tq (.tup [V.str x, V.str z]) = H8 at s8 e8 ⊢
    have cb6 := cb.same s16
    have cb8 := (cb6.kp k7 P6).same s8
    have K8 := ((s1.trans s16).keep.trans k7).trans s8.keep
    have P8 := P7.same s8
    have gx : Good (rs ++ [(x, [z])]) := good_snoc g (by rw [← hks]; exact ⟨hvx, hxn, by simp, by simp, fun b hb => by rw [List.mem_singleton.mp hb]; exact hz⟩)
    have lx : (rs ++ [(x, [z])]).length ≤ 30 := by rw [List.length_append]; show _ + 1 ≤ 30; omega
    have fitx := gx.fit lx
    have f1 : (rowsD (rs ++ [(x, [z])])).shown.length ≤ sizeLine := rowsD_fits fitx (by omega)
    have d1 : (rowsD (rs ++ [(x, [z])])).depth ≤ 8 := Nat.le_trans (rowsD_depth _) (by decide)
    have f0 : (rowsD rs).shown.length ≤ sizeLine := rowsD_fits fit (by omega)
    have d0 : (rowsD rs).depth ≤ 8 := Nat.le_trans (rowsD_depth _) (by decide)
    have kx : x ∈ keys (ups (rs ++ [(x, [z])])) := by
      rw [keys_ups, List.map_append]
      simp
    obtain ⟨dxb, fsb, hb1, hb2⟩ := cb8.ins
    have hb2' := hb2 "with_rows" (by decide +kernel) (by decide +kernel) (by decide +kernel)
    refine ⟨_, rfl, b, dxb, fsb, rfl, hb1, hb2', _, rfl, [V.ref b], _, rfl, rfl, (by show 1 ≤ 16777216; decide), fun pt hpt => ?_⟩
    have q1 : Same H8 (upd H8 pt (.tup [V.ref tq])) := (Same.refl H8).put hpt
    refine ⟨b, pt, rs, [(x, [z])], [tq], rfl, cb8.same q1, upd_same, (RowsAt.one e8).mono fun q r e => q1 q _ e, gx, lx, fun b2 H9 cb2 q2 => ?_⟩
    have s9 := q1.trans q2
    have cb9 := cb8.same s9
    have K9 := K8.trans s9.keep
    have P9 := P8.same s9
    have hl9 := K9 l _ hl nl
    have R9 := R.keep P0 K9
    have tq9 := s9 tq _ e8
    -- repr(later.rows)
    have cb2' := cb2
    obtain ⟨dx2, r2, n2, l2, kvs2, ts2, g1, _, _, _, g5, g6⟩ := cb2'
    refine ⟨_, rfl, b2, C, dx2, _, _, rfl, g1, Y.cl, Y.nR, flds_rows _ _ _, r2, rowsD (rs ++ [(x, [z])]), rfl, .tup (SqT.of g5) (rows_dp K _ ts2 g6), rowsD_show _, rowsD_nodict _, d1, f1, ?_⟩
    refine ⟨_, rfl, l, _, rfl, .inl ⟨SqL.of hl9, fun t5 ht5 => ?_⟩⟩
    have a1 : Same H9 (upd H9 t5 (.tup (ts.map V.ref))) := (Same.refl H9).put ht5
    have b1 : (upd H9 t5 (.tup (ts.map V.ref))) t5 = some (.tup (ts.map V.ref)) := upd_same
    generalize upd H9 t5 (.tup (ts.map V.ref)) = H10 at a1 b1 ⊢
    refine ⟨_, rfl, (by show 1 ≤ sizeLine; decide), fun t6 ht6 => ?_⟩
    have a2 : Same H10 (upd H10 t6 (.tup [V.ref tq])) := (Same.refl H10).put ht6
    have b2' : (upd H10 t6 (.tup [V.ref tq])) t6 = some (.tup [V.ref tq]) := upd_same
    generalize upd H10 t6 (.tup [V.ref tq]) = H11 at a2 b2' ⊢
    refine ⟨t5, t6, _, _, rfl, rfl, a2 t5 _ b1, b2', by rw [List.length_map, tl]; show _ + 1 ≤ 16777216; omega, fun t7 H12 a3 h7 => ?_⟩
    have a13 := (a1.trans a2).trans a3
    have Rx : RowsAt H12 (ts ++ [tq]) (rs ++ [(x, [z])]) := (R9.mono fun q r e => a13 q _ e).snoc (a13 tq _ tq9)
    have ed : DpAll K H12 (ts.map V.ref ++ [V.ref tq]) ((rs ++ [(x, [z])]).map fun r => tD (r.1 :: r.2)) := by
      have := rows_dp K _ _ Rx
      rw [List.map_append] at this
      exact this
    refine ⟨t7, rowsD (rs ++ [(x, [z])]), rfl, .tup (SqT.of h7) ed, rowsD_show _, rowsD_nodict _, d1, f1, rfl, _, rfl, iteNS rfl ?_⟩
    have cb12 := cb9.same a13
    have cc12 := cb2.same a13
    have K12 := K9.trans a13.keep
    have P12 := P9.same a13
    have hl12 := K12 l _ hl nl
    -- repr(built.rows)
    have cb12' := cb12
    obtain ⟨dx3, r3, n3, l3, kvs3, ts3, g1, _, _, _, g5, g6⟩ := cb12'
    refine ⟨_, rfl, b, C, dx3, _, _, rfl, g1, Y.cl, Y.nR, flds_rows _ _ _, r3, rowsD rs, rfl, .tup (SqT.of g5) (rows_dp K _ ts3 g6), rowsD_show _, rowsD_nodict _, d0, f0, ?_⟩
    refine ⟨_, rfl, l, _, rfl, .inl ⟨SqL.of hl12, fun t8 ht8 => ?_⟩⟩
    have a4 : Same H12 (upd H12 t8 (.tup (ts.map V.ref))) := (Same.refl H12).put ht8
    have b4 : (upd H12 t8 (.tup (ts.map V.ref))) t8 = some (.tup (ts.map V.ref)) := upd_same
    generalize upd H12 t8 (.tup (ts.map V.ref)) = H13 at a4 b4 ⊢
    have K13 := K12.trans a4.keep
    have P13 := P12.same a4
    refine ⟨t8, rowsD rs, rfl, .tup (SqT.of b4) (rows_dp K rs ts (R.keep P0 K13)), rowsD_show _, rowsD_nodict _, d0, f0, rfl, _, rfl, iteNS rfl ?_⟩
    have cb13 := cb12.same a4
    have cc13 := cc12.same a4
    obtain ⟨dxl, fsl, hc1, _⟩ := cc13.ins
    obtain ⟨dxm, fsm, hd1, hd2⟩ := cb13.ins
    have hd2' := hd2 "with_rows" (by decide +kernel) (by decide +kernel) (by decide +kernel)
    -- later == built or fresh in built or fresh not in later
    refine ⟨_, rfl, _, rfl, b2, dxl, fsl, rfl, hc1, right_own cb13 Y.cl O, b2, _, rs ++ [(x, [z])], rfl, cc13, fitx, .inl ⟨b, rs, rfl, cb13, fit, _, rfl, _, rfl, ?_⟩⟩
    have ne : ¬ rs ++ [(x, [z])] = rs := fun e => by
      have := congrArg List.length e
      rw [List.length_append] at this
      simp at this
    rw [decide_eq_false ne]
    refine iteF ⟨_, rfl, _, rfl, b, dxm, fsm, rfl, hd1, b, _, rs, rfl, cb13, .inl ⟨x, rfl, _, rfl, _, rfl, ?_⟩⟩
    rw [decide_eq_false (by rw [hnm]; exact hxn)]
    refine iteF ⟨_, rfl, _, rfl, b2, dxl, fsl, rfl, hc1, b2, _, rs ++ [(x, [z])], rfl, cc13, .inl ⟨x, rfl, _, rfl, _, _, rfl, rfl, _, rfl, ?_⟩⟩
    rw [decide_eq_true kx]
    refine iteF ?_
    -- with_rows() == built
    refine ⟨_, rfl, b, dxm, fsm, rfl, hd1, hd2', [V.ref b], [], rfl, rfl, (by show 0 ≤ 16777216; decide), fun pt2 hpt2 => ?_⟩
    have a5 : Same H13 (upd H13 pt2 (.tup [])) := (Same.refl H13).put hpt2
    refine ⟨b, pt2, rs, [], [], rfl, cb13.same a5, upd_same, rowsAt_nil _, by rw [List.append_nil]; exact g, by rw [List.append_nil]; omega, fun b3 H14 cb3 a6 => ?_⟩
    rw [List.append_nil] at cb3
    have a56 := a5.trans a6
    have cb14 := cb13.same a56
    have cc14 := cc13.same a56
    have P14 := P13.same a56
    have K14 := K13.trans a56.keep
    obtain ⟨dxn, fsn, he1, _⟩ := cb3.ins
    obtain ⟨dxo, fso, ho1, _⟩ := cb14.ins
    obtain ⟨dxp, fsp, hp1, _⟩ := cc14.ins
    refine ⟨_, rfl, b3, dxn, fsn, rfl, he1, right_own cb14 Y.cl O, b3, _, rs, rfl, cb3, fit, .inl ⟨b, rs, rfl, cb14, fit, _, rfl, _, rfl, ?_⟩⟩
    rw [decide_eq_true rfl]
    refine iteT ⟨_, rfl, b2, dxp, fsp, rfl, hp1, b2, rs ++ [(x, [z])], rfl, cc14, _, rfl, by omega, _, rfl, b, dxo, fso, rfl, ho1, b, rs, rfl, cb14, _, rfl, by omega, _, _, rfl, rfl, ?_⟩
    refine ⟨rfl, ?_⟩
    have e : V.int (((rs ++ [(x, [z])]).length + 2 : Nat) : Int) = V.int (((rs.length + 2 : Nat) : Int) + 1) := by
      rw [List.length_append]
      show V.int ((rs.length + 1 + 2 : Nat) : Int) = _
      congr 1
    have fin := k H14 K14 (P14.mono (by omega))
    rw [← decide_eq_true e] at fin
    exact fin
end
end K2
end
section
set_option Elab.async false
set_option maxRecDepth 100000
set_option linter.all false
namespace K2
open PySem L2
abbrev sPen : Stmt := top 16
abbrev sLaw : Stmt := top 31
def spPen (K : PySem.W.Frag) : Sp := fun vs H Q _ => ∃ (a : Addr) (ns : List Int), vs = [.ref a] ∧ SqL K H a (ns.map V.int) ∧ ns.length ≤ 63 ∧ ∀ (p c : Addr) (H' : Hp), Pen H' p c ns 0 → Same H H' → Q (.ref p) H'
def spLaw (K : PySem.W.Frag) : Sp := fun vs H Q _ => ∃ (a : Addr) (ns : List Int), vs = [.ref a] ∧ SqL K H a (ns.map V.int) ∧ ns.length ≤ 63 ∧ ∀ H', Q (.bl true) H'
theorem cut63 (ns : List Int) (h : ns.length ≤ 63) : cutV (ns.map V.int) none (some 63) = ns.map V.int := by
  unfold cutV
  rw [show (63 : Int) = ((63 : Nat) : Int) from rfl, HT.sIx_nat, HT.sIx_none, List.drop_zero, Nat.sub_zero, List.length_map, Nat.min_eq_right h]
  rw [List.take_of_length_le (by rw [List.length_map]; exact Nat.le_refl _)]
abbrev nLaw : List Str := ["_law_script", "_law_pen_here", "_law_turn", "_law_many", "_law_lines", "_law_plain"]
section
variable {P : Program} {w : World} {K : PySem.W.Frag} {mg : Str → Option Value} {base : Heap}
theorem scLaw : FnScope nLaw ["_law_script"] (defScope sLaw) := ⟨rfl, rfl, rfl, by decide +kernel, rfl, by decide +kernel, by decide +kernel⟩
theorem scPen : FnScope ["_law_script"] ["_law_script"] (defScope sPen) := ⟨rfl, rfl, rfl, by decide +kernel, rfl, by decide +kernel, by decide +kernel⟩
theorem ok_pen {f : Addr} {fd : FuncData} (F : Fun K "_law_pen" "_law_pen" sPen f fd) (T : Bi mg) : FnOk P w K mg base CX0 1 f fd ["_law_script"] (spPen K) := by
  refine F.ok scPen (fun vs H Q E h => ?_) (fun cdv A outer s H vs Q E hr h => ?_)
  · obtain ⟨a, ns, rfl, _⟩ := h
    rfl
  · obtain ⟨a, ns, rfl, hS, hl, k⟩ := h
    refine ⟨_, (pss_one (ps_ret (pe_lst (pa_cons (pe_callTy call_list_of (by rfl) T.list (by decide +kernel) (pa_cons (pe_slice sl_list (pv 0) po_none (po_some pe_int)) pa_nil)) (pa_cons pe_int (pa_cons pe_int pa_nil)))))), ?_⟩
    refine ⟨_, rfl, _, rfl, a, _, rfl, hS, fun q hq => ⟨q, _, rfl, .inl (SqL.of upd_same), fun c hc => ⟨(by show 3 ≤ sizeLine; decide), fun p hp => ?_⟩⟩⟩
    rw [cut63 ns hl] at hc hp ⊢
    have hcp : c ≠ p := ne_of_none upd_same hp
    have s1 := ((Same.refl H).put (o := .lst (ns.map V.int)) hq)
    have s2 := s1.put (o := .lst (ns.map V.int)) (s1.free hc)
    exact k p c _ ⟨⟨0, 0, upd_same, by decide, by decide, by decide⟩, by rw [upd_ne hcp, upd_same], hl⟩ (s2.put (s2.free hp))
theorem ok_law {f fPn fD fP fB fR fLg fRg fGw fLn fPl pP C : Addr} {mc : Value} {fd fdPn fdD fdP fdB fdR fdL fdRg fdGw fdLn fdPl : FuncData} (F : Fun K "law" "law" sLaw f fd) (T : Bi mg) (Y : Txt K mg C) (PN : Df K mg "_law_pen" sPen fPn fdPn ["_law_script"]) (GPn : FnOk P w K mg base CX0 1 fPn fdPn ["_law_script"] (spPen K))
    (D : Df K mg "_law_draw" sDraw fD fdD ["_law_pen_here", "_law_many"]) (GD : FnOk P w K mg base CX0 1 fD fdD ["_law_pen_here", "_law_many"] spDraw) (PK : Df K mg "_law_pick" sPick fP fdP ["_law_pen_here", "_law_some"]) (GP : FnOk P w K mg base CX0 2 fP fdP ["_law_pen_here", "_law_some"] spPick)
    (BE : Df K mg "_law_begun" sBegun fB fdB ["_law_pen_here", "_law_many"]) (GB : FnOk P w K mg base CX0 4 fB fdB ["_law_pen_here", "_law_many"] spBegun) (RS : Df K mg "_law_rows" sRows fR fdR ["_law_pen_here", "_law_words_here"]) (GR : FnOk P w K mg base CX0 4 fR fdR ["_law_pen_here", "_law_words_here"] spRows)
    (LG : Df K mg "_law_light" sLight fLg fdL ["_law_lines"]) (GL : FnOk P w K mg base CX0 1 fLg fdL ["_law_lines"] spLight)
    (RG : Df K mg "_law_right" sRg fRg fdRg ["_law_pen_here", "_law_lines"]) (GRg : FnG P w K mg base 8 fRg fdRg ["_law_pen_here", "_law_lines"] spRg) (GW : Df K mg "_law_grown_right" sGr fGw fdGw ["_law_pen_here", "_law_lines"]) (GGr : FnG P w K mg base 8 fGw fdGw ["_law_pen_here", "_law_lines"] spGr)
    (GLn : FnOk P w K mg base CX0 1 fLn fdLn ["self"] (spLenC C)) (bLn : Binds K fdLn ["self"] []) (hLn : PySem.W.findIn K (.ref C) "__len__" = some (some (.ref fLn))) (hLnf : PySem.W.isFn K (.ref fLn) = true)
    (cR : ClX.CRead K C mc) (sP : SMet K C mc "plain" pP fPl) (GPl : FnOk P w K mg base CX0 6 fPl fdPl [] (spPlain C)) (bPl : Binds K fdPl [] []) : FnG P w K mg base 9 f fd ["_law_script"] (spLaw K) := by
  refine okG F scLaw (fun vs H Q E h => ?_) (fun cdv A outer s H vs Q E hr gu h => ?_)
  · obtain ⟨a, ns, rfl, _⟩ := h
    rfl
  · obtain ⟨a, ns, rfl, hS, hl, k⟩ := h
    have hr1 : Room 1 _ := hr.mono (by decide)
    have hr2 : Room 2 _ := hr.mono (by decide)
    have hr4 : Room 4 _ := hr.mono (by decide)
    have hr6 : Room 6 _ := hr.mono (by decide)
    have hr8 : Room 8 _ := hr
    refine ⟨_, (pss_cons (ps_set (i := 1) scLaw.nd rfl (Or.inl rfl) (pe_call GPn hr1 (by rfl) PN.m PN.F.kp PN.b .nil pass0 (pa_cons (pv 0) pa_nil)))
      (pss_cons (ps_for PassesOwn.never rfl (pi_range1 rfl T.range (pa_cons pe_int pa_nil)) (pg_name (i := 2) scLaw.nd rfl (Or.inl rfl))
      (pss_cons (ps_set (i := 3) scLaw.nd rfl (Or.inl rfl) (pe_call GP hr2 (by rfl) PK.m PK.F.kp PK.b .nil pass0 (pa_cons (pv 1) (pa_cons (pe_lst (pa_cons pe_int (pa_cons pe_int (pa_cons pe_int (pa_cons pe_int (pa_cons pe_int (pa_cons pe_int (pa_cons (pe_call GD hr1 (by rfl) D.m D.F.kp D.b .nil pass0 (pa_cons (pv 1) (pa_cons pe_int pa_nil))) pa_nil)))))))) pa_nil))))
        (pss_cons (ps_set (i := 4) scLaw.nd rfl (Or.inl rfl) (pe_call GL hr1 (by rfl) LG.m LG.F.kp LG.b .nil pass0 (pa_cons (pe_call GR hr4 (by rfl) RS.m RS.F.kp RS.b .nil pass0 (pa_cons (pv 1) (pa_cons (pe_call GB hr4 (by rfl) BE.m BE.F.kp BE.b .nil pass0 (pa_cons (pv 1) (pa_cons (pv 3) pa_nil))) pa_nil))) pa_nil)))
        (pss_cons (ps_if (pt_not (pt_val (pe_callG GRg hr8 gu (by rfl) RG.m RG.F.kp RG.b (pa_cons (pv 1) (pa_cons (pv 4) pa_nil)))))
        (pss_one (ps_ret pe_bl))
        pss_nil)
        (pss_one (ps_if (PW.pt (pw_and (pt_cmpR op_lt (pe_callB call_len_seq (by rfl) T.len PySem.boot_len (pa_cons (pv 4) pa_nil)) pe_int (nomark _)) (pw_and1 (pt_not (pt_val (pe_callG GGr hr8 gu (by rfl) GW.m GW.F.kp GW.b (pa_cons (pv 1) (pa_cons (pv 4) pa_nil))))))))
        (pss_one (ps_ret pe_bl))
        pss_nil))))))
      (pss_cons (ps_set (i := 5) scLaw.nd rfl (Or.inl rfl) (pe_smeth0 (pe_glob (v := .ref C) rfl Y.mgC rfl) cR sP GPl bPl hr6 pass0))
      (pss_one (ps_ret (pe_and (pe_cmpR (op_eqD hr.units) (pe_fld (pv 5) rfl) (pe_tup (pa_cons pe_str (pa_cons pe_str pa_nil))) (nomark _)) (pe_and (pe_cmpR (op_eqD hr.units) (pe_fld (pv 5) rfl) (pe_tup pa_nil) (nomark _)) (pe_one (pe_cmpR op_eq (pe_callB (call_lenO GLn bLn pass0 hr2 hLn hLnf) (by rfl) T.len PySem.boot_len (pa_cons (pv 5) pa_nil)) pe_int (nomark _)))))))))), ?_⟩
    refine ⟨_, rfl, a, ns, rfl, hS, hl, fun p c H1 P1 s1 => ?_⟩
    refine ⟨2, rfl, by decide, by decide, for_range (lo := 0) (n := 2) (fun i σ Hc => ∃ v2 v3 v4 v5 : Option V, σ = [some (.ref a), some (.ref p), v2, v3, v4, v5] ∧ Pen Hc p c ns (2500 * i)) ?_ ?_ ?_⟩
    · exact ⟨_, _, _, _, rfl, P1⟩
    · rintro i σ Hc hi ⟨v2, v3, v4, v5, rfl, Pc⟩
      generalize hN : 2500 * i = n at Pc
      have hn : n ≤ 2500 := by omega
      refine ⟨_, rfl, _, rfl, p, c, ns, n, _, rfl, Pc, by omega, by decide, by decide, fun dv Ha d0 d1 ka Pa => ?_⟩
      obtain ⟨dr, rfl⟩ : ∃ j : Nat, dv = (j : Int) := ⟨dv.toNat, (Int.toNat_of_nonneg d0).symm⟩
      refine ⟨(by show 7 ≤ sizeLine; decide), fun l7 h7 => ?_⟩
      refine ⟨p, c, ns, n + 1, _, _, rfl, Pa.new h7, by omega, .inl ⟨l7, rfl, (Pa.pne h7).symm, upd_same⟩, by simp, (by show 7 ≤ 1000; decide), fun j v Hb hv kb Pb => ?_⟩
      obtain ⟨m, rfl, hm⟩ : ∃ m : Nat, v = .int (m : Int) ∧ m ≤ 30 := by
        have hm6 := List.mem_of_getElem? hv
        simp only [List.mem_cons, List.not_mem_nil, or_false] at hm6
        rcases hm6 with rfl | rfl | rfl | rfl | rfl | rfl | rfl
        · exact ⟨0, rfl, by omega⟩
        · exact ⟨1, rfl, by omega⟩
        · exact ⟨2, rfl, by omega⟩
        · exact ⟨4, rfl, by omega⟩
        · exact ⟨8, rfl, by omega⟩
        · exact ⟨30, rfl, by omega⟩
        · exact ⟨dr, rfl, by omega⟩
      refine ⟨_, rfl, _, rfl, _, rfl, p, c, ns, n + 1 + 1, m, rfl, Pb, by omega, by omega, fun lw ws H4 hw hwl hlw k4 P4 => ?_⟩
      refine ⟨p, c, lw, ns, n + 1 + 1 + 14, ws, rfl, P4, by omega, hlw, hw, by omega, fun lr ts rs H5 g en R hlr k5 P5 => ?_⟩
      have hrl : rs.length = m := by rw [← hwl, ← en, List.length_map]
      refine ⟨lr, ts, rs, rfl, hlr, R, g, by omega, fun ll tl us H7 g7 e7 nm7 R7 hll s7 => ?_⟩
      have P7 := P5.same s7
      have hfr : Str.ofString "ne" ∉ us.map (·.1) ∨ Str.ofString "newer" ∉ us.map (·.1) := by
        rw [nm7, en]
        exact hw.fr
      refine ⟨_, rfl, _, rfl, p, c, ll, ns, n + 1 + 1 + 14 + 1500, tl, us, rfl, P7, by omega, hll, R7, g7, by omega, fun Hz kz Pz => ⟨_, rfl, iteF ?_⟩⟩
      have nll := P7.refs_ne hll
      have hllz := kz ll _ hll nll
      refine ⟨_, rfl, ll, _, rfl, .inl (SqL.of hllz), _, _, rfl, rfl, _, rfl, ite2 (fun h => ?_) (fun h => iteF ⟨_, _, _, _, rfl, Pz.mono (by omega)⟩)⟩
      have h := of_decide_eq_true h
      rw [List.length_map, R7.1] at h
      exact ⟨_, rfl, _, rfl, p, c, ll, ns, n + 1 + 1 + 14 + 1500 + 200, tl, us, rfl, Pz, by omega, hllz, R7.keep P7 kz, g7, by omega, hfr, fun Hy ky Py => ⟨_, rfl, iteF ⟨_, _, _, _, rfl, Py.mono (by omega)⟩⟩⟩
    · rintro σ Hc ⟨v2, v3, v4, v5, rfl, Pc⟩
      refine ⟨rfl, rfl, fun r H9 cl s9 => ?_⟩
      have cl' := cl
      obtain ⟨dx, rr, nn, ll, kvs, ts', c1, _, _, c4, c5, c6⟩ := cl'
      refine ⟨_, rfl, r, C, dx, _, _, rfl, c1, Y.cl, Y.nN, flds_names _ _ _, (by show 2 ≤ sizeLine; decide), fun t1 ht1 => ?_⟩
      have q1 : Same H9 (upd H9 t1 (.tup [V.str (Str.ofString "error"), V.str (Str.ofString "vacant")])) := (Same.refl H9).put ht1
      have b1 : (upd H9 t1 (.tup [V.str (Str.ofString "error"), V.str (Str.ofString "vacant")])) t1 = some (.tup (base0.map V.str)) := upd_same
      generalize upd H9 t1 (.tup [V.str (Str.ofString "error"), V.str (Str.ofString "vacant")]) = H10 at q1 b1 ⊢
      have ok0 : ∀ y ∈ base0, sOk y = true := fun y hy => (vw_ok (vw_base0 y hy)).1
      have ek : keys (ups []) = base0 := by rw [keys_ups]; rfl
      have c4' := q1 nn _ c4
      rw [ek] at c4'
      refine ⟨tD base0, tD base0, .tup (SqT.of c4') (strs_dp _ _ _), .tup (SqT.of b1) (strs_dp _ _ _), tD_shaped _ ok0, tD_shaped _ ok0, _, rfl, ?_⟩
      have e1 : PyData.eqv (tD base0) (tD base0) = true := (strs_eqv base0 base0).trans (decide_eq_true rfl)
      rw [e1]
      refine iteT ?_
      have c5' := q1 rr _ c5
      refine ⟨_, rfl, r, C, dx, _, _, rfl, q1 r _ c1, Y.cl, Y.nR, flds_rows _ _ _, Nat.zero_le _, fun t2 ht2 => ?_⟩
      have q2 : Same H10 (upd H10 t2 (.tup [])) := (Same.refl H10).put ht2
      have b2 : (upd H10 t2 (.tup [])) t2 = some (.tup []) := upd_same
      generalize upd H10 t2 (.tup []) = H11 at q2 b2 ⊢
      refine ⟨rowsD [], .tuple [], .tup (SqT.of (q2 rr _ c5')) (rows_dp K [] ts' (c6.mono fun q r e => (q1.trans q2) q _ e)), .tup (SqT.of b2) .nil, rowsD_shaped (fun r h => by cases h), rfl, _, rfl, ?_⟩
      refine iteT ?_
      refine ⟨_, rfl, r, dx, _, rfl, (q1.trans q2) r _ c1, r, [], rfl, cl.same (q1.trans q2), _, rfl, by show 0 + 2 < 1000000; decide, ?_⟩
      exact ⟨rfl, k H11⟩
end
end K2
end
section
set_option Elab.async false
set_option maxRecDepth 100000
set_option linter.all false
namespace K2
open PySem L2 PySem.Spec PyProof.Rows
section
variable {P : Program} {w : World} {K : PySem.W.Frag} {mg mb : Str → Option Value} {k : Nat} {fa a : Addr} {fd : FuncData} {x : Str} {s : Shared} {us : List Value} {ns : List Int}
/-- the call from the claim's own caller, told of any heap of which nothing but the script is tracked -/
theorem call_core {sp : Sp} {H : Hp} (kin : K.In s.heap) (gl : s.heap.Ns mainGlobals mg) (bl : s.heap.Ns builtinsNs mb) (bb : ∀ y : Str, y ≠ "__name__" → mb y = bootBuiltins y) (lim : s.heap.NoLimit) (gn : s.gens = #[])
    (ha : s.heap.get? a = some { cls := .type "list", data := .seq us.toArray }) (hr : Room k callerA) (F : ∀ base : Heap, K.In base → base.Ns mainGlobals mg → FnG P w K mg base k fa fd [x] sp) (bind : ∀ (z : Shared) (u : Value), BindsTo z fd ⟨[u], []⟩ [(x, u)])
    (only : Only H) (ok : HOk P w H s.heap) (lone : ∀ b, H b ≠ none → b = a) (apart : H a ≠ none → K.lookup a = none) (hsp : sp [.ref a] H (fun v _ => v = .bl true) fun _ _ _ => False) :
    codeAny (model P w) callerA (.call (.ref fa) ⟨[.ref a], []⟩) (fun r z => r = .ok (.ret (.bool true)) ∧ OldK s.heap z.heap ∧ z.os = s.os ∧ AllBare z.gens) s := by
  have un_dict : ∀ {b : Addr} {o : Obj} {es : Array DictEntry} {ep : Nat}, s.heap.get? b = some o → o.data = .dict es ep → H b = none := fun {b o es ep} e d => by
    by_cases q : H b = none
    · exact q
    · have := lone b q
      subst this
      rw [ha] at e
      cases e
      exact absurd (show Data.seq us.toArray _ = Data.dict es ep from d) (fun z => nomatch z)
  have ns2 : ∀ {b : Addr} {m : Str → Option Value}, s.heap.Ns b m → (hidT s.heap H).Ns b m := fun ⟨o, es, ep, e, d, r⟩ => ⟨o, es, ep, hidT_get e (un_dict e d), d, r⟩
  have kin2 : K.In (hidT s.heap H) := fun b o e => hidT_get (kin b o e) (by
    by_cases q : H b = none
    · exact q
    · have := lone b q
      subst this
      rw [apart q] at e
      cases e)
  have e0 : Env0 P w K mg (hidT s.heap H) callerA [] s H := ⟨rfl, ⟨kin2, ns2 gl, ⟨mb, ns2 bl, bb⟩, let ⟨mc, h1, h2⟩ := lim; ⟨mc, ns2 h1, h2⟩⟩, fun b o e => of_hidT e, Nat.le_of_eq (hidT_size _ _), trivial, fun b (hb : b ∈ ([] : List Addr)) => (List.not_mem_nil hb).elim, ok, .of_eq gn⟩
  refine codeAny_mono ((F _ kin2 (ns2 gl)).run callerA [] s H ⟨[.ref a], []⟩ [.ref a] [.ref a] _ _ hr rfl e0 (bind s (.ref a)) (.cons rfl .nil) hsp) fun r z h => ?_
  cases r with
  | error e => exact h.elim
  | ok fl =>
    cases fl with
    | next => exact h.elim
    | brk => exact h.elim
    | cont => exact h.elim
    | ret u =>
      obtain ⟨v, H2, os, bare, un, ok2, rv, q⟩ := h
      have q : v = .bl true := q
      subst q
      obtain rfl : u = Value.bool true := rv
      refine ⟨rfl, OldK.of_keep fun b o e => ?_, os, bare⟩
      rcases only b with z1 | ⟨ob, xs, z1⟩
      · exact un.keep b o e z1 (fun z : b ∈ ([] : List Addr) => (List.not_mem_nil z).elim) (fun z => (List.not_mem_nil z).elim)
      · obtain ⟨e1, _⟩ := ok b _ z1
        obtain ⟨e2, _⟩ := ok2 b _ (un.frzs b ob _ z1)
        rw [e] at e1
        cases e1
        exact e2
theorem law_callG (kin : K.In s.heap) (gl : s.heap.Ns mainGlobals mg) (bl : s.heap.Ns builtinsNs mb) (bb : ∀ y : Str, y ≠ "__name__" → mb y = bootBuiltins y) (lim : s.heap.NoLimit) (gn : s.gens = #[])
    (ha : s.heap.get? a = some { cls := .type "list", data := .seq us.toArray }) (hi : IntsAre us ns) (hl : ns.length ≤ 63) (hr : Room k callerA) (F : ∀ base : Heap, K.In base → base.Ns mainGlobals mg → FnG P w K mg base k fa fd [x] (spLaw K)) (bind : ∀ (z : Shared) (u : Value), BindsTo z fd ⟨[u], []⟩ [(x, u)]) :
    codeAny (model P w) callerA (.call (.ref fa) ⟨[.ref a], []⟩) (fun r z => r = .ok (.ret (.bool true)) ∧ OldK s.heap z.heap ∧ z.os = s.os ∧ AllBare z.gens) s := by
  have rv := vals_ints hi
  have ll := hi.length
  have pr : ∀ H : Hp, SqL K H a (ns.map V.int) → spLaw K [.ref a] H (fun v _ => v = .bl true) fun _ _ _ => False := fun H hS => ⟨a, ns, rfl, hS, hl, fun _ => rfl⟩
  cases hk : K.lookup a with
  | some o =>
    have e := kin a o hk
    rw [ha] at e
    cases e
    exact call_core (H := fun _ => none) kin gl bl bb lim gn ha hr F bind (fun _ => .inl rfl) (fun b u z => nomatch (show (none : Option HO) = some u from z)) (fun b z => absurd rfl z) (fun z => absurd rfl z)
      (pr _ (.inr ⟨_, us.toArray, _, hk, rfl, rfl, rfl, by rw [List.size_toArray, ll]; exact Nat.le_trans hl (by decide), by simpa using rv⟩))
  | none =>
    have at_ : ∀ b, (fun b => if b = a then some (HO.frz { cls := .type "list", data := .seq us.toArray } (.lst (ns.map V.int))) else none : Hp) b ≠ none → b = a := fun b z => by
      by_cases hb : b = a
      · exact hb
      · exact absurd (if_neg hb) z
    refine call_core (H := fun b => if b = a then some (HO.frz { cls := .type "list", data := .seq us.toArray } (.lst (ns.map V.int))) else none) kin gl bl bb lim gn ha hr F bind (fun b => ?_) (fun b u z => ?_) at_ (fun _ => hk)
      (pr _ (.inl (.inr ⟨{ cls := .type "list", data := .seq us.toArray }, if_pos rfl⟩)))
    · by_cases hb : b = a
      · exact .inr ⟨_, _, if_pos hb⟩
      · exact .inl (if_neg hb)
    · have hb : b = a := at_ b (by rw [z]; simp)
      subst hb
      have z2 := (if_pos rfl).symm.trans z
      cases z2
      exact ⟨ha, by rw [List.length_map]; exact Nat.le_trans hl (by decide), us, _, rv, ha⟩
end
theorem walk_ofG {l : PySem.W.OpenLaw} {q : Program} {loose : List Str} {XP : (Str → Option Value) → Heap → Prop} {YP : World → Heap → Prop} {d : DefRec} {K : Params → PySem.W.Frag} {k : Nat} {x : Str} (hn : l.most = some 63) (hdf : d.params.defaults = []) (hr : Room k callerA)
    (hY : ∀ (w : World) (h : Heap), YP w h → (K w.params).In h) (F : ∀ (w : World) (mg : Str → Option Value) (fa : Addr) (h : Heap), (K w.params).In h → h.Ns mainGlobals mg → mg d.name = some (.ref fa) →
      ∃ fd : FuncData, (∀ (z : Shared) (u : Value), BindsTo z fd ⟨[u], []⟩ [(x, u)]) ∧ ∀ base : Heap, (K w.params).In base → base.Ns mainGlobals mg → FnG l.prog w (K w.params) mg base k fa fd [x] (spLaw (K w.params))) :
    PySem.W.WalkO q loose XP YP l.row.toRowW d [] (fun f vs => PySem.call f vs) := by
  refine Att.attach_call hn hdf fun w s0 s1 mg mb fa o pm cd doc a vs ns G Y ho hd hcd hmg hobj hints hlen hg => ?_
  obtain ⟨fd, hb, hF⟩ := F w mg fa _ (hY w _ Y) G.T.g hmg
  exact law_callG (hY w _ Y) G.T.g G.T.b G.T.builtins G.T.nolimit hg hobj hints hlen hr hF hb
end K2
end
section
set_option Elab.async false
set_option maxRecDepth 100000
set_option linter.all false
namespace K2
open PySem L2
theorem vals_rev : ∀ {vs : List V} {us : List Value}, Vals vs us → Vals vs.reverse us.reverse
  | _, _, .nil => .nil
  | _ :: _, _ :: _, .cons r t => by
    rw [List.reverse_cons, List.reverse_cons]
    exact (vals_rev t).append (.cons r .nil)
theorem kit_no {K : PySem.W.Frag} {C : Addr} {T : String} {l : List String} (c : PySem.W.isClsIn K C = true) (t : PySem.W.typeIn K (.ref C) = some (.type "type")) (e : fastBuiltinMro T = some (l.map Value.type)) : PySem.W.kitOne K (.type T) (.ref C) = some false := by
  have q : PySem.W.kitCls K (.type T) (.ref C) = some false := by
    show (if ((PySem.W.clsIn K C).isSome && PySem.W.typeIn K (.ref C) == some (.type "type")) = true then PySem.W.subIn K (.type T) (.ref C) else none) = some false
    have c' : (PySem.W.clsIn K C).isSome = true := c
    rw [c', t, if_pos (by simp)]
    exact sub_ty e
  unfold PySem.W.kitOne
  rw [if_neg (by simp)]
  exact q
def chkS : List Str → List Value → Bool
  | [], [] => true
  | x :: xs, .str y _ :: us => decide (x = y) && chkS xs us
  | _, _ => false
theorem chk_vals : ∀ {xs : List Str} {us : List Value}, chkS xs us = true → Vals (xs.map V.str) us
  | [], [], _ => .nil
  | x :: xs, .str y t :: us, h => by
    have h2 := Bool.and_eq_true_iff.mp (show (decide (x = y) && chkS xs us) = true from h)
    have e := of_decide_eq_true h2.1
    subst e
    exact .cons ⟨t, rfl⟩ (chk_vals h2.2)

theorem all_mk {l : PySem.W.OpenLaw} {w : World} {K : PySem.W.Frag} {h : Heap} {mg : Str → Option Value} {fa C pM pP aR : Addr} {rest restP : List Value} {t1 t2 : Tok} {ddR : Option Addr} {itsR : Array Value} {nR2 : Nat} {slR : Array (Option Value)} (X : K.In h) (G : h.Ns mainGlobals mg) (hfa : mg "law" = some (.ref fa))
    {fIW fAW fAD fFA fLI fPN fD fPK fBA fWO fBE fMI fRO fRS fLG fNW fOT fBT fRG fGW fLW fIN fPL fMA fLN fCO fEQ fWR : Addr} {odIW anIW odAW anAW odAD anAD odFA anFA odLI anLI odPN anPN odD anD odPK anPK odBA anBA odWO anWO odBE anBE odMI anMI odRO anRO odRS anRS odLG anLG odNW anNW odOT anOT odBT anBT odRG anRG odGW anGW odLW anLW odIN anIN odPL anPL odMA anMA odLN anLN odCO anCO odEQ anEQ odWR anWR : Option Addr} {slIW slAW slAD slFA slLI slPN slD slPK slBA slWO slBE slMI slRO slRS slLG slNW slOT slBT slRG slGW slLW slIN slPL slMA slLN slCO slEQ slWR : Array (Option Value)} {ocIW kVIW dcIW pmIW cdIW ctIW ocAW kVAW dcAW pmAW cdAW ctAW ocAD kVAD dcAD pmAD cdAD ctAD ocFA kVFA dcFA pmFA cdFA ctFA ocLI kVLI dcLI pmLI cdLI ctLI ocPN kVPN dcPN pmPN cdPN ctPN ocD kVD dcD pmD cdD ctD ocPK kVPK dcPK pmPK cdPK ctPK ocBA kVBA dcBA pmBA cdBA ctBA ocWO kVWO dcWO pmWO cdWO ctWO ocBE kVBE dcBE pmBE cdBE ctBE ocMI kVMI dcMI pmMI cdMI ctMI ocRO kVRO dcRO pmRO cdRO ctRO ocRS kVRS dcRS pmRS cdRS ctRS ocLG kVLG dcLG pmLG cdLG ctLG ocNW kVNW dcNW pmNW cdNW ctNW ocOT kVOT dcOT pmOT cdOT ctOT ocBT kVBT dcBT pmBT cdBT ctBT ocRG kVRG dcRG pmRG cdRG ctRG ocGW kVGW dcGW pmGW cdGW ctGW ocLW kVLW dcLW pmLW cdLW ctLW ocIN kVIN dcIN pmIN cdIN ctIN ocPL kVPL dcPL pmPL cdPL ctPL ocMA kVMA dcMA pmMA cdMA ctMA ocLN kVLN dcLN pmLN cdLN ctLN ocCO kVCO dcCO pmCO cdCO ctCO ocEQ kVEQ dcEQ pmEQ cdEQ ctEQ ocWR kVWR dcWR pmWR cdWR ctWR : Value}
    (aIW : PySem.W.nsIn K mainGlobals "is_word" = some (some (.ref fIW)))
    (aAW : PySem.W.nsIn K mainGlobals "are_words" = some (some (.ref fAW)))
    (aAD : PySem.W.nsIn K mainGlobals "are_different" = some (some (.ref fAD)))
    (aFA : PySem.W.nsIn K mainGlobals "_fault" = some (some (.ref fFA)))
    (aLI : PySem.W.nsIn K mainGlobals "_line" = some (some (.ref fLI)))
    (aPN : PySem.W.nsIn K mainGlobals "_law_pen" = some (some (.ref fPN)))
    (aD : PySem.W.nsIn K mainGlobals "_law_draw" = some (some (.ref fD)))
    (aPK : PySem.W.nsIn K mainGlobals "_law_pick" = some (some (.ref fPK)))
    (aBA : PySem.W.nsIn K mainGlobals "_law_barred" = some (some (.ref fBA)))
    (aWO : PySem.W.nsIn K mainGlobals "_law_words" = some (some (.ref fWO)))
    (aBE : PySem.W.nsIn K mainGlobals "_law_begun" = some (some (.ref fBE)))
    (aMI : PySem.W.nsIn K mainGlobals "_law_mixed" = some (some (.ref fMI)))
    (aRO : PySem.W.nsIn K mainGlobals "_law_row" = some (some (.ref fRO)))
    (aRS : PySem.W.nsIn K mainGlobals "_law_rows" = some (some (.ref fRS)))
    (aLG : PySem.W.nsIn K mainGlobals "_law_light" = some (some (.ref fLG)))
    (aNW : PySem.W.nsIn K mainGlobals "_law_new" = some (some (.ref fNW)))
    (aOT : PySem.W.nsIn K mainGlobals "_law_others" = some (some (.ref fOT)))
    (aBT : PySem.W.nsIn K mainGlobals "_law_bent" = some (some (.ref fBT)))
    (aRG : PySem.W.nsIn K mainGlobals "_law_right" = some (some (.ref fRG)))
    (aGW : PySem.W.nsIn K mainGlobals "_law_grown_right" = some (some (.ref fGW)))
    (aLW : PySem.W.nsIn K mainGlobals "law" = some (some (.ref fLW)))
    (lIW : K.lookup fIW = some ⟨ocIW, odIW, .func (PySem.W.fnOf "is_word" "is_word" (defArgs sIsW) (defBody sIsW) (defScope sIsW) .none kVIW dcIW pmIW anIW cdIW ctIW), slIW⟩) (cIW : PySem.W.codeIn K cdIW "is_word" = true) (kIW : PySem.W.keepIn K (.ref fIW) = true)
    (lAW : K.lookup fAW = some ⟨ocAW, odAW, .func (PySem.W.fnOf "are_words" "are_words" (defArgs sAreW) (defBody sAreW) (defScope sAreW) .none kVAW dcAW pmAW anAW cdAW ctAW), slAW⟩) (cAW : PySem.W.codeIn K cdAW "are_words" = true) (kAW : PySem.W.keepIn K (.ref fAW) = true)
    (lAD : K.lookup fAD = some ⟨ocAD, odAD, .func (PySem.W.fnOf "are_different" "are_different" (defArgs sAreD) (defBody sAreD) (defScope sAreD) .none kVAD dcAD pmAD anAD cdAD ctAD), slAD⟩) (cAD : PySem.W.codeIn K cdAD "are_different" = true) (kAD : PySem.W.keepIn K (.ref fAD) = true)
    (lFA : K.lookup fFA = some ⟨ocFA, odFA, .func (PySem.W.fnOf "_fault" "_fault" (defArgs sFault) (defBody sFault) (defScope sFault) .none kVFA dcFA pmFA anFA cdFA ctFA), slFA⟩) (cFA : PySem.W.codeIn K cdFA "_fault" = true) (kFA : PySem.W.keepIn K (.ref fFA) = true)
    (lLI : K.lookup fLI = some ⟨ocLI, odLI, .func (PySem.W.fnOf "_line" "_line" (defArgs sLine) (defBody sLine) (defScope sLine) .none kVLI dcLI pmLI anLI cdLI ctLI), slLI⟩) (cLI : PySem.W.codeIn K cdLI "_line" = true) (kLI : PySem.W.keepIn K (.ref fLI) = true)
    (lPN : K.lookup fPN = some ⟨ocPN, odPN, .func (PySem.W.fnOf "_law_pen" "_law_pen" (defArgs sPen) (defBody sPen) (defScope sPen) .none kVPN dcPN pmPN anPN cdPN ctPN), slPN⟩) (cPN : PySem.W.codeIn K cdPN "_law_pen" = true) (kPN : PySem.W.keepIn K (.ref fPN) = true)
    (lD : K.lookup fD = some ⟨ocD, odD, .func (PySem.W.fnOf "_law_draw" "_law_draw" (defArgs sDraw) (defBody sDraw) (defScope sDraw) .none kVD dcD pmD anD cdD ctD), slD⟩) (cD : PySem.W.codeIn K cdD "_law_draw" = true) (kD : PySem.W.keepIn K (.ref fD) = true)
    (lPK : K.lookup fPK = some ⟨ocPK, odPK, .func (PySem.W.fnOf "_law_pick" "_law_pick" (defArgs sPick) (defBody sPick) (defScope sPick) .none kVPK dcPK pmPK anPK cdPK ctPK), slPK⟩) (cPK : PySem.W.codeIn K cdPK "_law_pick" = true) (kPK : PySem.W.keepIn K (.ref fPK) = true)
    (lBA : K.lookup fBA = some ⟨ocBA, odBA, .func (PySem.W.fnOf "_law_barred" "_law_barred" (defArgs sBarred) (defBody sBarred) (defScope sBarred) .none kVBA dcBA pmBA anBA cdBA ctBA), slBA⟩) (cBA : PySem.W.codeIn K cdBA "_law_barred" = true) (kBA : PySem.W.keepIn K (.ref fBA) = true)
    (lWO : K.lookup fWO = some ⟨ocWO, odWO, .func (PySem.W.fnOf "_law_words" "_law_words" (defArgs sWords) (defBody sWords) (defScope sWords) .none kVWO dcWO pmWO anWO cdWO ctWO), slWO⟩) (cWO : PySem.W.codeIn K cdWO "_law_words" = true) (kWO : PySem.W.keepIn K (.ref fWO) = true)
    (lBE : K.lookup fBE = some ⟨ocBE, odBE, .func (PySem.W.fnOf "_law_begun" "_law_begun" (defArgs sBegun) (defBody sBegun) (defScope sBegun) .none kVBE dcBE pmBE anBE cdBE ctBE), slBE⟩) (cBE : PySem.W.codeIn K cdBE "_law_begun" = true) (kBE : PySem.W.keepIn K (.ref fBE) = true)
    (lMI : K.lookup fMI = some ⟨ocMI, odMI, .func (PySem.W.fnOf "_law_mixed" "_law_mixed" (defArgs sMixed) (defBody sMixed) (defScope sMixed) .none kVMI dcMI pmMI anMI cdMI ctMI), slMI⟩) (cMI : PySem.W.codeIn K cdMI "_law_mixed" = true) (kMI : PySem.W.keepIn K (.ref fMI) = true)
    (lRO : K.lookup fRO = some ⟨ocRO, odRO, .func (PySem.W.fnOf "_law_row" "_law_row" (defArgs sRow) (defBody sRow) (defScope sRow) .none kVRO dcRO pmRO anRO cdRO ctRO), slRO⟩) (cRO : PySem.W.codeIn K cdRO "_law_row" = true) (kRO : PySem.W.keepIn K (.ref fRO) = true)
    (lRS : K.lookup fRS = some ⟨ocRS, odRS, .func (PySem.W.fnOf "_law_rows" "_law_rows" (defArgs sRows) (defBody sRows) (defScope sRows) .none kVRS dcRS pmRS anRS cdRS ctRS), slRS⟩) (cRS : PySem.W.codeIn K cdRS "_law_rows" = true) (kRS : PySem.W.keepIn K (.ref fRS) = true)
    (lLG : K.lookup fLG = some ⟨ocLG, odLG, .func (PySem.W.fnOf "_law_light" "_law_light" (defArgs sLight) (defBody sLight) (defScope sLight) .none kVLG dcLG pmLG anLG cdLG ctLG), slLG⟩) (cLG : PySem.W.codeIn K cdLG "_law_light" = true) (kLG : PySem.W.keepIn K (.ref fLG) = true)
    (lNW : K.lookup fNW = some ⟨ocNW, odNW, .func (PySem.W.fnOf "_law_new" "_law_new" (defArgs sNew) (defBody sNew) (defScope sNew) .none kVNW dcNW pmNW anNW cdNW ctNW), slNW⟩) (cNW : PySem.W.codeIn K cdNW "_law_new" = true) (kNW : PySem.W.keepIn K (.ref fNW) = true)
    (lOT : K.lookup fOT = some ⟨ocOT, odOT, .func (PySem.W.fnOf "_law_others" "_law_others" (defArgs sOt) (defBody sOt) (defScope sOt) .none kVOT dcOT pmOT anOT cdOT ctOT), slOT⟩) (cOT : PySem.W.codeIn K cdOT "_law_others" = true) (kOT : PySem.W.keepIn K (.ref fOT) = true)
    (lBT : K.lookup fBT = some ⟨ocBT, odBT, .func (PySem.W.fnOf "_law_bent" "_law_bent" (defArgs sBent) (defBody sBent) (defScope sBent) .none kVBT dcBT pmBT anBT cdBT ctBT), slBT⟩) (cBT : PySem.W.codeIn K cdBT "_law_bent" = true) (kBT : PySem.W.keepIn K (.ref fBT) = true)
    (lRG : K.lookup fRG = some ⟨ocRG, odRG, .func (PySem.W.fnOf "_law_right" "_law_right" (defArgs sRg) (defBody sRg) (defScope sRg) .none kVRG dcRG pmRG anRG cdRG ctRG), slRG⟩) (cRG : PySem.W.codeIn K cdRG "_law_right" = true) (kRG : PySem.W.keepIn K (.ref fRG) = true)
    (lGW : K.lookup fGW = some ⟨ocGW, odGW, .func (PySem.W.fnOf "_law_grown_right" "_law_grown_right" (defArgs sGr) (defBody sGr) (defScope sGr) .none kVGW dcGW pmGW anGW cdGW ctGW), slGW⟩) (cGW : PySem.W.codeIn K cdGW "_law_grown_right" = true) (kGW : PySem.W.keepIn K (.ref fGW) = true)
    (lLW : K.lookup fLW = some ⟨ocLW, odLW, .func (PySem.W.fnOf "law" "law" (defArgs sLaw) (defBody sLaw) (defScope sLaw) .none kVLW dcLW pmLW anLW cdLW ctLW), slLW⟩) (cLW : PySem.W.codeIn K cdLW "law" = true) (kLW : PySem.W.keepIn K (.ref fLW) = true)
    (lIN : K.lookup fIN = some ⟨ocIN, odIN, .func (PySem.W.fnOf "__init__" "Classes.__init__" (defArgs sInit) (defBody sInit) (defScope sInit) .none kVIN dcIN pmIN anIN cdIN ctIN), slIN⟩) (cIN : PySem.W.codeIn K cdIN "Classes.__init__" = true) (kIN : PySem.W.keepIn K (.ref fIN) = true)
    (lPL : K.lookup fPL = some ⟨ocPL, odPL, .func (PySem.W.fnOf "plain" "Classes.plain" (defArgs sPlain) (defBody sPlain) (defScope sPlain) .none kVPL dcPL pmPL anPL cdPL ctPL), slPL⟩) (cPL : PySem.W.codeIn K cdPL "Classes.plain" = true) (kPL : PySem.W.keepIn K (.ref fPL) = true)
    (lMA : K.lookup fMA = some ⟨ocMA, odMA, .func (PySem.W.fnOf "made" "Classes.made" (defArgs sMade) (defBody sMade) (defScope sMade) .none kVMA dcMA pmMA anMA cdMA ctMA), slMA⟩) (cMA : PySem.W.codeIn K cdMA "Classes.made" = true) (kMA : PySem.W.keepIn K (.ref fMA) = true)
    (lLN : K.lookup fLN = some ⟨ocLN, odLN, .func (PySem.W.fnOf "__len__" "Classes.__len__" (defArgs sLen) (defBody sLen) (defScope sLen) .none kVLN dcLN pmLN anLN cdLN ctLN), slLN⟩) (cLN : PySem.W.codeIn K cdLN "Classes.__len__" = true) (kLN : PySem.W.keepIn K (.ref fLN) = true)
    (lCO : K.lookup fCO = some ⟨ocCO, odCO, .func (PySem.W.fnOf "__contains__" "Classes.__contains__" (defArgs sCo) (defBody sCo) (defScope sCo) .none kVCO dcCO pmCO anCO cdCO ctCO), slCO⟩) (cCO : PySem.W.codeIn K cdCO "Classes.__contains__" = true) (kCO : PySem.W.keepIn K (.ref fCO) = true)
    (lEQ : K.lookup fEQ = some ⟨ocEQ, odEQ, .func (PySem.W.fnOf "__eq__" "Classes.__eq__" (defArgs sEq) (defBody sEq) (defScope sEq) .none kVEQ dcEQ pmEQ anEQ cdEQ ctEQ), slEQ⟩) (cEQ : PySem.W.codeIn K cdEQ "Classes.__eq__" = true) (kEQ : PySem.W.keepIn K (.ref fEQ) = true)
    (lWR : K.lookup fWR = some ⟨ocWR, odWR, .func (PySem.W.fnOf "with_rows" "Classes.with_rows" (defArgs sWR) (defBody sWR) (defScope sWR) .none kVWR dcWR pmWR anWR cdWR ctWR), slWR⟩) (cWR : PySem.W.codeIn K cdWR "Classes.with_rows" = true) (kWR : PySem.W.keepIn K (.ref fWR) = true)
    (aC : PySem.W.nsIn K mainGlobals "Classes" = some (some (.ref C)))
    (aIN : PySem.W.findIn K (.ref C) "__init__" = some (some (.ref fIN)))
    (iIN : PySem.W.isFn K (.ref fIN) = true)
    (aLN : PySem.W.findIn K (.ref C) "__len__" = some (some (.ref fLN)))
    (iLN : PySem.W.isFn K (.ref fLN) = true)
    (aCO : PySem.W.findIn K (.ref C) "__contains__" = some (some (.ref fCO)))
    (iCO : PySem.W.isFn K (.ref fCO) = true)
    (aEQ : PySem.W.findIn K (.ref C) "__eq__" = some (some (.ref fEQ)))
    (iEQ : PySem.W.isFn K (.ref fEQ) = true)
    (aWR : PySem.W.findIn K (.ref C) "with_rows" = some (some (.ref fWR)))
    (iWR : PySem.W.isFn K (.ref fWR) = true)
    (nE : PySem.W.findIn K (.ref C) "__ne__" = some (some (.builtin "object.__ne__")))
    (ha : PySem.W.findIn K (.ref C) "__class__" = some (some (.builtin "object.__class__")))
    (hn : PySem.W.specialIn K (.builtin "object.__class__") "__get__" = some (some (.builtin "getset_descriptor.__get__")))
    (htk : PySem.W.takesIn K (.builtin "object.__class__") = some true)
    (hmo : PySem.W.mroIn K C (.type "object") = some true)
    (isC : PySem.W.isClsIn K C = true)
    (tyC : PySem.W.typeIn K (.ref C) = some (.type "type"))
    (cmP : PySem.W.findCls K (.ref C) (.type "type") "plain" = some (.get (.builtin "staticmethod.__get__") (.ref pP) .none (.ref C)))
    (rcP : PySem.W.recIn K pP "staticmethod" = some (.ref fPL :: restP))
    (pg : PySem.W.plainGet K C Str.empty = true)
    (hd : PySem.W.hasDictIn K C = true)
    (po : PySem.W.plainOver K C = true)
    (sa : PySem.W.findIn K (.ref C) "__setattr__" = some (some (.builtin "object.__setattr__")))
    (mk : PySem.W.makesIn K C = true)
    (kc : PySem.W.keepIn K (.ref C) = true)
    (nR : PySem.W.findIn K (.ref C) "rows" = some none)
    (nN : PySem.W.findIn K (.ref C) "names" = some none)
    (nL : PySem.W.findIn K (.ref C) "_lines" = some none)
    (rd : PySem.W.readsIn K C (.type "type") = true)
    (ga : PySem.W.specialIn K (.ref C) "__getattribute__" = some (some (.builtin "type.__getattribute__")))
    (cm : PySem.W.findCls K (.ref C) (.type "type") "made" = some (.get (.builtin "classmethod.__get__") (.ref pM) .none (.ref C)))
    (rc : PySem.W.recIn K pM "classmethod" = some (.ref fMA :: rest))
    (fi : PySem.W.fnIn K fMA = true)
    (zL : PySem.W.nsIn K mainGlobals "LONGEST" = some (some (.int 8 t1)))
    (zM : PySem.W.nsIn K mainGlobals "MOST_ROWS" = some (some (.int 30 t2)))
    (zR : PySem.W.nsIn K mainGlobals "RESERVED" = some (some (.ref aR)))
    (lR : K.lookup aR = some ⟨.type "tuple", ddR, .seq itsR nR2, slR⟩)
    (vR : chkS resd itsR.toList = true)
    (szR : itsR.size ≤ sizeLine)
    (b_len : PySem.W.nsIn K mainGlobals "len" = some none)
    (b_int : PySem.W.nsIn K mainGlobals "int" = some none)
    (b_abs : PySem.W.nsIn K mainGlobals "abs" = some none)
    (b_range : PySem.W.nsIn K mainGlobals "range" = some none)
    (b_list : PySem.W.nsIn K mainGlobals "list" = some none)
    (b_tuple : PySem.W.nsIn K mainGlobals "tuple" = some none)
    (b_enumerate : PySem.W.nsIn K mainGlobals "enumerate" = some none)
    (b_isinstance : PySem.W.nsIn K mainGlobals "isinstance" = some none)
    (b_str : PySem.W.nsIn K mainGlobals "str" = some none)
    (b_set : PySem.W.nsIn K mainGlobals "set" = some none)
    (b_all : PySem.W.nsIn K mainGlobals "all" = some none)
    (b_repr : PySem.W.nsIn K mainGlobals "repr" = some none)
    (b_min : PySem.W.nsIn K mainGlobals "min" = some none)
    : ∃ fd : FuncData, (∀ (z : Shared) (u : Value), BindsTo z fd ⟨[u], []⟩ [("_law_script", u)]) ∧ ∀ base : Heap, K.In base → base.Ns mainGlobals mg → FnG l.prog w K mg base 9 fa fd ["_law_script"] (spLaw K) := by
  have e := hfa.symm.trans (PySem.W.mg_of X G aLW)
  cases e
  have T : Bi mg := ⟨PySem.W.mg_none_of X G b_len, PySem.W.mg_none_of X G b_int, PySem.W.mg_none_of X G b_abs, PySem.W.mg_none_of X G b_range, PySem.W.mg_none_of X G b_list, PySem.W.mg_none_of X G b_tuple, PySem.W.mg_none_of X G b_enumerate, PySem.W.mg_none_of X G b_isinstance, PySem.W.mg_none_of X G b_str, PySem.W.mg_none_of X G b_set, PySem.W.mg_none_of X G b_all, PySem.W.mg_none_of X G b_repr⟩
  have GB : Gb K mg aR t1 t2 := ⟨PySem.W.mg_of X G zL, PySem.W.mg_of X G zM, PySem.W.mg_of X G zR, fun H => .inr ⟨_, itsR, nR2, lR, rfl, rfl, szR, chk_vals vR⟩⟩
  have Y : Txt K mg C := ⟨⟨pg, hd, po, sa⟩, nR, nN, nL, PySem.W.mg_of X G aC⟩
  have FIW := fun_mk (st := sIsW) lIW cIW kIW
  have FAW := fun_mk (st := sAreW) lAW cAW kAW
  have FAD := fun_mk (st := sAreD) lAD cAD kAD
  have FFA := fun_mk (st := sFault) lFA cFA kFA
  have FLI := fun_mk (st := sLine) lLI cLI kLI
  have FPN := fun_mk (st := sPen) lPN cPN kPN
  have FD := fun_mk (st := sDraw) lD cD kD
  have FPK := fun_mk (st := sPick) lPK cPK kPK
  have FBA := fun_mk (st := sBarred) lBA cBA kBA
  have FWO := fun_mk (st := sWords) lWO cWO kWO
  have FBE := fun_mk (st := sBegun) lBE cBE kBE
  have FMI := fun_mk (st := sMixed) lMI cMI kMI
  have FRO := fun_mk (st := sRow) lRO cRO kRO
  have FRS := fun_mk (st := sRows) lRS cRS kRS
  have FLG := fun_mk (st := sLight) lLG cLG kLG
  have FNW := fun_mk (st := sNew) lNW cNW kNW
  have FOT := fun_mk (st := sOt) lOT cOT kOT
  have FBT := fun_mk (st := sBent) lBT cBT kBT
  have FRG := fun_mk (st := sRg) lRG cRG kRG
  have FGW := fun_mk (st := sGr) lGW cGW kGW
  have FLW := fun_mk (st := sLaw) lLW cLW kLW
  have FIN := fun_mk (st := sInit) lIN cIN kIN
  have FPL := fun_mk (st := sPlain) lPL cPL kPL
  have FMA := fun_mk (st := sMade) lMA cMA kMA
  have FLN := fun_mk (st := sLen) lLN cLN kLN
  have FCO := fun_mk (st := sCo) lCO cCO kCO
  have FEQ := fun_mk (st := sEq) lEQ cEQ kEQ
  have FWR := fun_mk (st := sWR) lWR cWR kWR
  have DIW : Df K mg "is_word" sIsW fIW _ (["x"] : List Str) := ⟨FIW, PySem.W.mg_of X G aIW, FIW.binds (ps := ["x"]) fun _ _ _ _ _ _ us hl => match us, hl with | [_], _ => rfl⟩
  have DAW : Df K mg "are_words" sAreW fAW _ (["xs"] : List Str) := ⟨FAW, PySem.W.mg_of X G aAW, FAW.binds (ps := ["xs"]) fun _ _ _ _ _ _ us hl => match us, hl with | [_], _ => rfl⟩
  have DAD : Df K mg "are_different" sAreD fAD _ (["words"] : List Str) := ⟨FAD, PySem.W.mg_of X G aAD, FAD.binds (ps := ["words"]) fun _ _ _ _ _ _ us hl => match us, hl with | [_], _ => rfl⟩
  have DFA : Df K mg "_fault" sFault fFA _ (["row", "k", "lines"] : List Str) := ⟨FFA, PySem.W.mg_of X G aFA, FFA.binds (ps := ["row", "k", "lines"]) fun _ _ _ _ _ _ us hl => match us, hl with | [_, _, _], _ => rfl⟩
  have DLI : Df K mg "_line" sLine fLI _ (["row", "lines"] : List Str) := ⟨FLI, PySem.W.mg_of X G aLI, FLI.binds (ps := ["row", "lines"]) fun _ _ _ _ _ _ us hl => match us, hl with | [_, _], _ => rfl⟩
  have DPN : Df K mg "_law_pen" sPen fPN _ (["_law_script"] : List Str) := ⟨FPN, PySem.W.mg_of X G aPN, FPN.binds (ps := ["_law_script"]) fun _ _ _ _ _ _ us hl => match us, hl with | [_], _ => rfl⟩
  have DD : Df K mg "_law_draw" sDraw fD _ (["_law_pen_here", "_law_many"] : List Str) := ⟨FD, PySem.W.mg_of X G aD, FD.binds (ps := ["_law_pen_here", "_law_many"]) fun _ _ _ _ _ _ us hl => match us, hl with | [_, _], _ => rfl⟩
  have DPK : Df K mg "_law_pick" sPick fPK _ (["_law_pen_here", "_law_some"] : List Str) := ⟨FPK, PySem.W.mg_of X G aPK, FPK.binds (ps := ["_law_pen_here", "_law_some"]) fun _ _ _ _ _ _ us hl => match us, hl with | [_, _], _ => rfl⟩
  have DBA : Df K mg "_law_barred" sBarred fBA _ ([] : List Str) := ⟨FBA, PySem.W.mg_of X G aBA, FBA.binds (ps := []) fun _ _ _ _ _ _ us hl => match us, hl with | [], _ => rfl⟩
  have DWO : Df K mg "_law_words" sWords fWO _ (["_law_pen_here", "_law_many"] : List Str) := ⟨FWO, PySem.W.mg_of X G aWO, FWO.binds (ps := ["_law_pen_here", "_law_many"]) fun _ _ _ _ _ _ us hl => match us, hl with | [_, _], _ => rfl⟩
  have DBE : Df K mg "_law_begun" sBegun fBE _ (["_law_pen_here", "_law_many"] : List Str) := ⟨FBE, PySem.W.mg_of X G aBE, FBE.binds (ps := ["_law_pen_here", "_law_many"]) fun _ _ _ _ _ _ us hl => match us, hl with | [_, _], _ => rfl⟩
  have DMI : Df K mg "_law_mixed" sMixed fMI _ (["_law_pen_here", "_law_some"] : List Str) := ⟨FMI, PySem.W.mg_of X G aMI, FMI.binds (ps := ["_law_pen_here", "_law_some"]) fun _ _ _ _ _ _ us hl => match us, hl with | [_, _], _ => rfl⟩
  have DRO : Df K mg "_law_row" sRow fRO _ (["_law_pen_here", "_law_word", "_law_known"] : List Str) := ⟨FRO, PySem.W.mg_of X G aRO, FRO.binds (ps := ["_law_pen_here", "_law_word", "_law_known"]) fun _ _ _ _ _ _ us hl => match us, hl with | [_, _, _], _ => rfl⟩
  have DRS : Df K mg "_law_rows" sRows fRS _ (["_law_pen_here", "_law_words_here"] : List Str) := ⟨FRS, PySem.W.mg_of X G aRS, FRS.binds (ps := ["_law_pen_here", "_law_words_here"]) fun _ _ _ _ _ _ us hl => match us, hl with | [_, _], _ => rfl⟩
  have DLG : Df K mg "_law_light" sLight fLG _ (["_law_lines"] : List Str) := ⟨FLG, PySem.W.mg_of X G aLG, FLG.binds (ps := ["_law_lines"]) fun _ _ _ _ _ _ us hl => match us, hl with | [_], _ => rfl⟩
  have DNW : Df K mg "_law_new" sNew fNW _ (["_law_pen_here", "_law_lines"] : List Str) := ⟨FNW, PySem.W.mg_of X G aNW, FNW.binds (ps := ["_law_pen_here", "_law_lines"]) fun _ _ _ _ _ _ us hl => match us, hl with | [_, _], _ => rfl⟩
  have DOT : Df K mg "_law_others" sOt fOT _ (["_law_names"] : List Str) := ⟨FOT, PySem.W.mg_of X G aOT, FOT.binds (ps := ["_law_names"]) fun _ _ _ _ _ _ us hl => match us, hl with | [_], _ => rfl⟩
  have DBT : Df K mg "_law_bent" sBent fBT _ (["_law_pen_here", "_law_lines"] : List Str) := ⟨FBT, PySem.W.mg_of X G aBT, FBT.binds (ps := ["_law_pen_here", "_law_lines"]) fun _ _ _ _ _ _ us hl => match us, hl with | [_, _], _ => rfl⟩
  have DRG : Df K mg "_law_right" sRg fRG _ (["_law_pen_here", "_law_lines"] : List Str) := ⟨FRG, PySem.W.mg_of X G aRG, FRG.binds (ps := ["_law_pen_here", "_law_lines"]) fun _ _ _ _ _ _ us hl => match us, hl with | [_, _], _ => rfl⟩
  have DGW : Df K mg "_law_grown_right" sGr fGW _ (["_law_pen_here", "_law_lines"] : List Str) := ⟨FGW, PySem.W.mg_of X G aGW, FGW.binds (ps := ["_law_pen_here", "_law_lines"]) fun _ _ _ _ _ _ us hl => match us, hl with | [_, _], _ => rfl⟩
  have BPL := FPL.binds (ps := []) fun _ _ _ _ _ _ us hl => match us, hl with | [], _ => rfl
  have BMA := FMA.binds (ps := ["cls", "rows"]) fun _ _ _ _ _ _ us hl => match us, hl with | [_, _], _ => rfl
  have BLN := FLN.binds (ps := ["self"]) fun _ _ _ _ _ _ us hl => match us, hl with | [_], _ => rfl
  have BCO := FCO.binds (ps := ["self", "x"]) fun _ _ _ _ _ _ us hl => match us, hl with | [_, _], _ => rfl
  have BEQ := FEQ.binds (ps := ["self", "other"]) fun _ _ _ _ _ _ us hl => match us, hl with | [_, _], _ => rfl
  have KMd : KBn K _ ["cls", "rows"] 1 ["rows"] (fun us ws => us ++ ws) (fun vs zs => vs ++ zs) :=
    ⟨fun z us ws _ h1 h2 => match us, ws, h1, h2 with | [_], [_], _, _ => BindsTo.of_eq (fd := (PySem.W.fnOf "made" "Classes.made" (defArgs sMade) (defBody sMade) (defScope sMade) .none kVMA dcMA pmMA anMA cdMA ctMA)) rfl, fun r1 r2 => r1.append r2⟩
  have tMin := PySem.W.mg_none_of X G b_min
  have O : Own K C := ⟨ha, hn, htk, hmo⟩
  have Z : Kit K C := ⟨kit_no (l := ["NoneType", "object"]) isC tyC (by decide +kernel), kit_no (l := ["tuple", "object"]) isC tyC (by decide +kernel), kit_no (l := ["list", "object"]) isC tyC (by decide +kernel), kit_no (l := ["str", "object"]) isC tyC (by decide +kernel), kit_no (l := ["int", "object"]) isC tyC (by decide +kernel)⟩
  have mWR : Meth K C "with_rows" fWR := ⟨aWR, iWR, kWR⟩
  have M : Mk K C fIN := ⟨mk, aIN, iIN, kc⟩
  refine ⟨_, fun z u => .of_eq (fd := (PySem.W.fnOf "law" "law" (defArgs sLaw) (defBody sLaw) (defScope sLaw) .none kVLW dcLW pmLW anLW cdLW ctLW)) rfl, fun base _ _ => ?_⟩
  have GD := ok_draw (P := l.prog) (w := w) (base := base) FD T
  have GP := ok_pick (P := l.prog) (w := w) (base := base) FPK T DD
  have GBa := ok_barred (P := l.prog) (w := w) (mg := mg) (base := base) FBA
  have GWo := ok_words (P := l.prog) (w := w) (base := base) FWO T DD DPK DBA
  have GBe := ok_begun FBE T DD DWO GWo
  have GMi := ok_mixed (P := l.prog) (w := w) (base := base) FMI T DD
  have GRo := ok_row FRO T DPK GP DMI GMi
  have GRs := ok_rows FRS DRO GRo
  have GLg := ok_light (P := l.prog) (w := w) (mg := mg) (base := base) FLG
  have GIw := ok_isw (P := l.prog) (w := w) (base := base) FIW T GB
  have GAw := ok_arew FAW T DIW GIw
  have GAd := ok_ared (P := l.prog) (w := w) (base := base) FAD T
  have GFa := ok_fault FFA T GB DAW GAw DAD GAd
  have GLi := ok_line (P := l.prog) (w := w) (mg := mg) (base := base) FLI
  have GIn : FnR l.prog w K mg base CX0 4 fIN (spInitR C) := ok_init FIN Y T DFA GFa DLI GLi
  have GMa := ok_made FMA M GIn
  have GPl := ok_plain FPL Y M GIn
  have GLn := ok_lenC (P := l.prog) (w := w) (base := base) FLN Y T
  have GCo := ok_co (P := l.prog) (w := w) (base := base) FCO Y T
  have GEq := ok_eq (P := l.prog) (w := w) (base := base) FEQ Y T O
  have GWr := ok_wr FWR Y M GIn
  have cR : ClX.CRead K C (.type "type") := ⟨rd, ga⟩
  have cM : ClX.CMet K C (.type "type") "made" pM fMA := ⟨cm, ⟨rest, rc⟩, fi⟩
  have sP : SMet K C (.type "type") "plain" pP fPL := ⟨cmP, ⟨restP, rcP⟩, kPL⟩
  have GNw := ok_new FNW T tMin Y DD GD M GIn mWR GWr cR cM GMa BMA KMd
  have GOt := ok_ot (P := l.prog) (w := w) (base := base) FOT T
  have GBt := ok_bent FBT T DD GD DPK GP
  have GRg := ok_rg FRG T Y O Z DNW GNw DOT GOt DBT GBt GEq BEQ aEQ iEQ nE GCo BCO aCO iCO GLn BLN aLN iLN M GIn cR sP GPl BPL
  have GGr := ok_gr FGW T Y O DPK GP GEq BEQ aEQ iEQ GCo BCO aCO iCO GLn BLN aLN iLN mWR GWr cR cM GMa BMA
  have GPn := ok_pen (P := l.prog) (w := w) (base := base) FPN T
  exact ok_law FLW T Y DPN GPn DD GD DPK GP DBE GBe DRS GRs DLG GLg DRG GRg DGW GGr GLn BLN aLN iLN cR sP GPl BPL
theorem walk {l : PySem.W.OpenLaw} {q : Program} {loose : List Str} {XP : (Str → Option Value) → Heap → Prop} {YP : World → Heap → Prop} {d : DefRec} {K : Params → PySem.W.Frag} (hn : l.most = some 63) (hdf : d.params.defaults = [])
    (hY : ∀ (w : World) (h : Heap), YP w h → (K w.params).In h)
    (F : ∀ (w : World) (mg : Str → Option Value) (fa : Addr) (h : Heap), (K w.params).In h → h.Ns mainGlobals mg → mg d.name = some (.ref fa) →
      ∃ fd : FuncData, (∀ (z : Shared) (u : Value), BindsTo z fd ⟨[u], []⟩ [("_law_script", u)]) ∧ ∀ base : Heap, (K w.params).In base → base.Ns mainGlobals mg → FnG l.prog w (K w.params) mg base 9 fa fd ["_law_script"] (spLaw (K w.params))) :
    PySem.W.WalkO q loose XP YP l.row.toRowW d [] (fun f vs => PySem.call f vs) := walk_ofG hn hdf ⟨rfl, by decide, by decide⟩ hY F
end K2
end
section
set_option Elab.async false
set_option maxRecDepth 100000
open PySem PySem.W PyProof.Rows
set_option maxRecDepth 100000 in
set_option maxHeartbeats 0 in
theorem PySem.Challenge.cw_whatleaves_k01_rows_and_names_holds : PySem.Challenge.rw_whatleaves_k01_rows_and_names.Holds := by
  w_on; o_law; k_head; (case hw => w_witness2)
  k_fill
  refine K2.walk (l := PySem.Challenge.rw_whatleaves_k01_rows_and_names) rfl rfl (fun w h Y => PySem.W.kIn_of Y) ?F
  case F =>
    intro w mg fa h KX G hmg
    refine' K2.all_mk KX G hmg ?aIW ?aAW ?aAD ?aFA ?aLI ?aPN ?aD ?aPK ?aBA ?aWO ?aBE ?aMI ?aRO ?aRS ?aLG ?aNW ?aOT ?aBT ?aRG ?aGW ?aLW ?lIW ?cIW ?kIW ?lAW ?cAW ?kAW ?lAD ?cAD ?kAD ?lFA ?cFA ?kFA ?lLI ?cLI ?kLI ?lPN ?cPN ?kPN ?lD ?cD ?kD ?lPK ?cPK ?kPK ?lBA ?cBA ?kBA ?lWO ?cWO ?kWO ?lBE ?cBE ?kBE ?lMI ?cMI ?kMI ?lRO ?cRO ?kRO ?lRS ?cRS ?kRS ?lLG ?cLG ?kLG ?lNW ?cNW ?kNW ?lOT ?cOT ?kOT ?lBT ?cBT ?kBT ?lRG ?cRG ?kRG ?lGW ?cGW ?kGW ?lLW ?cLW ?kLW ?lIN ?cIN ?kIN ?lPL ?cPL ?kPL ?lMA ?cMA ?kMA ?lLN ?cLN ?kLN ?lCO ?cCO ?kCO ?lEQ ?cEQ ?kEQ ?lWR ?cWR ?kWR ?aC ?aIN ?iIN ?aLN ?iLN ?aCO ?iCO ?aEQ ?iEQ ?aWR ?iWR ?nE ?ha ?hn ?htk ?hmo ?isC ?tyC ?cmP ?rcP ?pg ?hd ?po ?sa ?mk ?kc ?nR ?nN ?nL ?rd ?ga ?cm ?rc ?fi ?zL ?zM ?zR ?lR ?vR ?szR ?b_len ?b_int ?b_abs ?b_range ?b_list ?b_tuple ?b_enumerate ?b_isinstance ?b_str ?b_set ?b_all ?b_repr ?b_min
    (case aIW => k_is)
    (case aAW => k_is)
    (case aAD => k_is)
    (case aFA => k_is)
    (case aLI => k_is)
    (case aPN => k_is)
    (case aD => k_is)
    (case aPK => k_is)
    (case aBA => k_is)
    (case aWO => k_is)
    (case aBE => k_is)
    (case aMI => k_is)
    (case aRO => k_is)
    (case aRS => k_is)
    (case aLG => k_is)
    (case aNW => k_is)
    (case aOT => k_is)
    (case aBT => k_is)
    (case aRG => k_is)
    (case aGW => k_is)
    (case aLW => k_is)
    (case lIW => k_is)
    (case cIW => k_is)
    (case kIW => k_is)
    (case lAW => k_is)
    (case cAW => k_is)
    (case kAW => k_is)
    (case lAD => k_is)
    (case cAD => k_is)
    (case kAD => k_is)
    (case lFA => k_is)
    (case cFA => k_is)
    (case kFA => k_is)
    (case lLI => k_is)
    (case cLI => k_is)
    (case kLI => k_is)
    (case lPN => k_is)
    (case cPN => k_is)
    (case kPN => k_is)
    (case lD => k_is)
    (case cD => k_is)
    (case kD => k_is)
    (case lPK => k_is)
    (case cPK => k_is)
    (case kPK => k_is)
    (case lBA => k_is)
    (case cBA => k_is)
    (case kBA => k_is)
    (case lWO => k_is)
    (case cWO => k_is)
    (case kWO => k_is)
    (case lBE => k_is)
    (case cBE => k_is)
    (case kBE => k_is)
    (case lMI => k_is)
    (case cMI => k_is)
    (case kMI => k_is)
    (case lRO => k_is)
    (case cRO => k_is)
    (case kRO => k_is)
    (case lRS => k_is)
    (case cRS => k_is)
    (case kRS => k_is)
    (case lLG => k_is)
    (case cLG => k_is)
    (case kLG => k_is)
    (case lNW => k_is)
    (case cNW => k_is)
    (case kNW => k_is)
    (case lOT => k_is)
    (case cOT => k_is)
    (case kOT => k_is)
    (case lBT => k_is)
    (case cBT => k_is)
    (case kBT => k_is)
    (case lRG => k_is)
    (case cRG => k_is)
    (case kRG => k_is)
    (case lGW => k_is)
    (case cGW => k_is)
    (case kGW => k_is)
    (case lLW => k_is)
    (case cLW => k_is)
    (case kLW => k_is)
    (case aC => k_is)
    (case aIN => k_is)
    (case iIN => k_is)
    (case aLN => k_is)
    (case iLN => k_is)
    (case aCO => k_is)
    (case iCO => k_is)
    (case aEQ => k_is)
    (case iEQ => k_is)
    (case aWR => k_is)
    (case iWR => k_is)
    (case nE => k_is)
    (case ha => k_is)
    (case hn => k_is)
    (case htk => k_is)
    (case hmo => k_is)
    (case isC => k_is)
    (case tyC => k_is)
    (case cmP => k_is)
    (case rcP => k_is)
    (case pg => k_is)
    (case hd => k_is)
    (case po => k_is)
    (case sa => k_is)
    (case mk => k_is)
    (case kc => k_is)
    (case nR => k_is)
    (case nN => k_is)
    (case nL => k_is)
    (case rd => k_is)
    (case ga => k_is)
    (case cm => k_is)
    (case rc => k_is)
    (case lIN => k_is)
    (case cIN => k_is)
    (case kIN => k_is)
    (case lPL => k_is)
    (case cPL => k_is)
    (case kPL => k_is)
    (case lMA => k_is)
    (case cMA => k_is)
    (case kMA => k_is)
    (case lLN => k_is)
    (case cLN => k_is)
    (case kLN => k_is)
    (case lCO => k_is)
    (case cCO => k_is)
    (case kCO => k_is)
    (case lEQ => k_is)
    (case cEQ => k_is)
    (case kEQ => k_is)
    (case lWR => k_is)
    (case cWR => k_is)
    (case kWR => k_is)
    (case fi => k_is)
    (case zL => k_is)
    (case zM => k_is)
    (case zR => k_is)
    (case lR => k_is)
    (case vR => decide +kernel)
    (case szR => decide +kernel)
    (case b_len => k_is)
    (case b_int => k_is)
    (case b_abs => k_is)
    (case b_range => k_is)
    (case b_list => k_is)
    (case b_tuple => k_is)
    (case b_enumerate => k_is)
    (case b_isinstance => k_is)
    (case b_str => k_is)
    (case b_set => k_is)
    (case b_all => k_is)
    (case b_repr => k_is)
    (case b_min => k_is)
end
