import PyProof.Rows.All
import Wide.All
import OpenK.AllK
import Wide.FinOn
import HandS.Base
import HandS.Call
import HandS.List
import HandS.Strs
import HandS.SetKeys
import HandS.ForMost
import HandS.Walk
import HandS.ForExc
import HandS.ExcInit
import HandS.ExcField
import HandS.ExcIs
import HandS.IsInst
import KE.KExcIs
import PySem.Challenge.RW_ownmarks_k03_crowds_refused
set_option Elab.async false
set_option linter.all false
set_option maxRecDepth 100000
/-! Sets made of a list or a tuple of keys of any kind, however many: what is in them and how many there are. -/
namespace Km
open PySem PySem.Spec PyProof.Rows
section
variable {K : Type} [DecidableEq K]
def addU (l : List K) (k : K) : List K := if k ∈ l then l else l ++ [k]
def uniq (ks : List K) : List K := ks.foldl addU []
theorem uniq_snoc (ks : List K) (k : K) : uniq (ks ++ [k]) = addU (uniq ks) k := by
  unfold uniq
  rw [List.foldl_append]
  rfl
theorem mem_addU {l : List K} {k j : K} : j ∈ addU l k ↔ j ∈ l ∨ j = k := by
  unfold addU
  split
  · constructor
    · exact .inl
    · rintro (h | rfl) <;> assumption
  · simp
theorem rev_ind {P : List K → Prop} (h0 : P []) (h1 : ∀ l k, P l → P (l ++ [k])) (l : List K) : P l := by
  have h : ∀ r : List K, P r.reverse := by
    intro r
    induction r with
    | nil => exact h0
    | cons a r ih =>
      rw [List.reverse_cons]
      exact h1 _ _ ih
  have := h l.reverse
  rwa [List.reverse_reverse] at this
theorem mem_uniq (ks : List K) (j : K) : j ∈ uniq ks ↔ j ∈ ks := by
  induction ks using rev_ind with
  | h0 => simp [uniq]
  | h1 l k ih => rw [uniq_snoc, mem_addU, ih, List.mem_append, List.mem_singleton]
theorem uniq_le (ks : List K) : (uniq ks).length ≤ ks.length := by
  induction ks using rev_ind with
  | h0 => exact Nat.le_refl _
  | h1 l k ih =>
    rw [uniq_snoc, List.length_append, List.length_singleton]
    unfold addU
    split
    · omega
    · rw [List.length_append, List.length_singleton]
      omega
theorem uniq_full (ks : List K) : (uniq ks).length = ks.length ↔ ks.Nodup := by
  induction ks using rev_ind with
  | h0 => simp [uniq]
  | h1 l k ih =>
    have h2 := uniq_le l
    rw [uniq_snoc, List.length_append, List.length_singleton, List.nodup_append, ← ih]
    unfold addU
    by_cases h : k ∈ uniq l
    · rw [if_pos h]
      have h' := (mem_uniq l k).mp h
      constructor
      · intro e
        omega
      · rintro ⟨_, _, z⟩
        exact absurd rfl (z k h' k (List.mem_singleton.mpr rfl))
    · rw [if_neg h, List.length_append, List.length_singleton]
      have h' : k ∉ l := fun z => h ((mem_uniq l k).mpr z)
      constructor
      · intro e
        refine ⟨by omega, by simp, fun a ha b hb z => ?_⟩
        rw [List.mem_singleton.mp hb] at z
        exact h' (z ▸ ha)
      · rintro ⟨z, _⟩
        omega
theorem addU_len (l : List K) (k : K) : (addU l k).length = if decide (k ∈ l) = true then l.length else l.length + 1 := by
  unfold addU
  by_cases h : k ∈ l
  · rw [if_pos h, if_pos (decide_eq_true h)]
  · rw [if_neg h, if_neg (by simpa using h), List.length_append, List.length_singleton]
end
section
variable {prog : Program} {w : World} {K : Type} [DecidableEq K] {knd : KeyKind prog w K}
theorem setOf_eq {h : Heap} {a : Addr} {S T : K → Bool} {n m : Nat} (z : h.SetOf knd a S n) (e1 : ∀ k, S k = T k) (e2 : n = m) : h.SetOf knd a T m := by
  rw [← funext e1, ← e2]
  exact z
variable {A : Around} {R : Result → Shared → Prop} {I S : Addr} {fp wr : List Addr} {G : Array GenState → Array GenState → Prop} {n : Nat} {P : Nat → Value → Prop} {St : Nat → Shared → Prop}
def inU (ks : List K) (i : Nat) : K → Bool := fun k => decide (k ∈ uniq (ks.take i))
theorem inU_next {ks : List K} {i : Nat} {k : K} (hk : ks[i]? = some k) (j : K) : (inU ks i j || decide (j = k)) = inU ks (i + 1) j := by
  unfold inU
  rw [List.take_add_one, hk]
  show _ = decide (j ∈ uniq (ks.take i ++ [k]))
  rw [uniq_snoc, ← Bool.decide_or]
  exact decide_eq_decide.mpr mem_addU.symm
theorem cnt_next {ks : List K} {i : Nat} {k : K} (hk : ks[i]? = some k) : (if inU ks i k = true then (uniq (ks.take i)).length else (uniq (ks.take i)).length + 1) = (uniq (ks.take (i + 1))).length := by
  rw [List.take_add_one, hk]
  show _ = (uniq (ks.take i ++ [k])).length
  rw [uniq_snoc, addU_len]
  rfl
/-- the filling of a fresh set, from turn i on -/
theorem fill (W : WalksS prog w A.in1 I fp wr G n P St) (hS : S ∉ fp) (ks : List K) (hn : ks.length = n) (hroom : n + 1 < scanBound)
    (hval : ∀ i v, P i v → ∃ k, ks[i]? = some k ∧ knd.is k v = true ∧ v.scannable = true) :
    ∀ (left i : Nat) (s : Shared), left = n - i → i ≤ n → St i s → s.heap.SetOf knd S (inU ks i) (uniq (ks.take i)).length →
      (∀ s2, Moved (S :: wr) G s s2 → s2.heap.SetOf knd S (inU ks n) (uniq (ks.take n)).length → R (.ok (.ret .none)) s2) →
      codeAny (model prog w) A (.builtin "set.update.loop" ⟨[.ref S, .ref I], []⟩) R s
  | 0, i, s, hl, hi, st, z, hR => by
    have e : i = n := by omega
    rw [e] at st z
    refine codeAny_builtin PyProof.Rows.F.entry_set_update_loop ?_
    rw [Around.under_plainId PyProof.Rows.F.plain_set_update_loop _]
    refine wpAny_bind (W.done s _ _ st fun s2 mv => ?_)
    have hw : S ∉ wr := fun q => hS (W.sub _ q)
    refine wpAny_pure (hR s2 (mv.mono fun b hb => List.mem_cons_of_mem _ hb) ?_)
    obtain ⟨o, es, ep, t, ho, r⟩ := z
    exact ⟨o, es, ep, t, mv.heap S _ hw ho, r⟩
  | left + 1, i, s, hl, hi, st, z, hR => by
    have lt : i < n := by omega
    have hw : S ∉ wr := fun q => hS (W.sub _ q)
    refine codeAny_builtin PyProof.Rows.F.entry_set_update_loop ?_
    rw [Around.under_plainId PyProof.Rows.F.plain_set_update_loop _]
    refine wpAny_bind (W.item i s _ _ lt st fun v s1 hv st1 mv => ?_)
    obtain ⟨k, hk, his, hsc⟩ := hval i v hv
    have z1 : s1.heap.SetOf knd S (inU ks i) (uniq (ks.take i)).length := by
      obtain ⟨o, es, ep, t, ho, r⟩ := z
      exact ⟨o, es, ep, t, mv.heap S _ hw ho, r⟩
    refine wpAny_bind (wpAny_holding ?_)
    unfold setAdd
    refine wpAny_holding (wpAny_bind (knd.pyHash his ?_))
    have room : (uniq (ks.take i)).length + 1 < scanBound := by
      have h1 := uniq_le (ks.take i)
      have h2 : (ks.take i).length ≤ i := by
        rw [List.length_take]
        omega
      omega
    refine wpAny_setAddHashed_of (s := { s1 with toks := s1.toks + 1 }) his hsc z1 room fun h2 sb z2 => ?_
    have z3 : h2.SetOf knd S (inU ks (i + 1)) (uniq (ks.take (i + 1))).length := setOf_eq z2 (inU_next hk) (cnt_next hk)
    refine wpAny_pure ⟨plainId_quiet PyProof.Rows.F.plain_set_update_loop _, fill W hS ks hn hroom hval left (i + 1) _ (by omega) lt (W.frame _ s1 _ _ st1 (Nat.le_succ _) fun b hb o e => ?_) z3 fun s3 mv3 z4 => ?_⟩
    · have nb : b ≠ S := fun q => hS (q ▸ hb)
      rw [sb.2 b nb]
      exact e
    · refine hR s3 (Moved.trans W.gtrans ((mv.mono fun b hb => List.mem_cons_of_mem _ hb).then_heap (Nat.le_succ _) fun b o hb e => ?_) mv3) z4
      have nb : b ≠ S := fun q => hb (q ▸ List.mem_cons_self)
      rw [sb.2 b nb]
      exact e
end
end Km
namespace Km
open PySem PySem.Spec PyProof.Rows
section
variable {prog : Program} {w : World} {A : Around} {E : Value → Shared → Prop} {s : Shared} {K : Type} [DecidableEq K] {knd : KeyKind prog w K}
def fresh (led : Bool) : Obj := { cls := .type "set", dict := none, data := .set #[] 0 (.fresh 0 0 led) }
/-- what __init__ is to leave: all of keys in the set at D, what stood before stands -/
def Left (knd : KeyKind prog w K) (s : Shared) (ks : List K) (s2 : Shared) : Prop :=
  ∃ h2 tk, s2 = { s with heap := h2, toks := tk } ∧ h2.SetOf knd s.heap.objs.size (inU ks ks.length) (uniq ks).length ∧ ∀ b o, s.heap.get? b = some o → h2.get? b = some o
/-- set(x), given what its __init__ does with the fresh set -/
theorem set_of_init {x : Value} {ks : List K} {Q : Value → Shared → Prop}
    (hinit : ∀ (led : Bool) (B : Around), (A.handled = none → B.handled = none) → wpAny (model prog w) B (Builtin.«set.__init__» ⟨[.ref s.heap.objs.size, x], []⟩)
      (fun r s2 => r = .done (.ret .none) ∧ Left knd s ks s2) E { s with heap := s.heap.push (fresh led) })
    (h : ∀ s2, Left knd s ks s2 → Q (.ref s.heap.objs.size) s2) : wpAny (model prog w) A (call (.type "set") [x]) Q E s := by
  obtain ⟨c, tl, hmro⟩ := PySem.F.called_set.mro
  have a1 := PySem.F.called_set.made
  have a2 := PySem.F.called_set.sub
  refine wpAny_call (codeAny_of_tree ?_)
  refine wpAny_pure ⟨Code.quiet_builtin _ (by decide +kernel), codeAny_builtin PySem.F.entry_type_call ?_⟩
  rw [Around.under_plain (weight_type_call_type "set" [x] []) rfl]
  have a3 := PySem.F.called_set.notType
  have a4 := PySem.F.called_set.canCreate
  have a5 := PySem.F.typeCall_set_1 x
  repeat (any_goals (first | assumption | wp_step))
  refine codeAny_mono (code_set_new_1 x (E := E) (Q₁ := fun o s1 => ∃ led : Bool, o = .ref s.heap.objs.size ∧ s1 = { s with heap := s.heap.push (fresh led) }) fun led => ⟨led, rfl, rfl⟩) fun r s1 hr => ?_
  cases r with
  | error e => exact hr
  | ok fl =>
    cases fl with
    | ret o =>
      obtain ⟨led, rfl, rfl⟩ := hr
      have at1 : (s.heap.push (fresh led)).get? s.heap.objs.size = some (fresh led) := Heap.get?_push_size _ rfl
      have ty1 : Shared.TypeIs { s with heap := s.heap.push (fresh led) } (.ref s.heap.objs.size) "set" := ⟨_, at1, rfl⟩
      have a6 := PySem.F.called_set.init.lookup
      have a7 := PySem.F.called_set.init.bind (.ref s.heap.objs.size)
      repeat (any_goals (first | assumption | wp_step))
      refine codeAny_mono (codeAny_call_builtin (R := wants (fun r s2 => r = .none ∧ Left knd s ks s2) E) PySem.F.called_set.init.plain PySem.F.entry_set_init (check_set_init_1 ty1 ?_)) fun r2 s2 hr2 => ?_
      · refine wpAny_mono (hinit led _ fun q => ?_) (fun r s2 z => ?_) (fun _ _ z => z)
        · simp [q]
        · obtain ⟨rfl, z⟩ := z
          exact ⟨rfl, z⟩
      · cases r2 with
        | error e => exact hr2
        | ok f2 =>
          cases f2 with
          | ret r =>
            obtain ⟨rfl, z⟩ := hr2
            repeat (any_goals (first | assumption | wp_step))
            exact h _ z
          | _ => exact hr2.elim
    | _ => exact hr.elim
/-- set.__init__ over a list -/
theorem init_list {l : Addr} {items : Array Value} {ks : List K} (led : Bool) (hh : A.handled = none) (hl : s.heap.IsList l items) (hn : ks.length = items.size) (hroom : items.size + 1 < scanBound)
    (hval : ∀ (i : Nat) (v : Value), items[i]? = some v → ∃ k, ks[i]? = some k ∧ knd.is k v = true ∧ v.scannable = true) :
    wpAny (model prog w) A (Builtin.«set.__init__» ⟨[.ref s.heap.objs.size, .ref l], []⟩) (fun r s2 => r = .done (.ret .none) ∧ Left knd s ks s2) E { s with heap := s.heap.push (fresh led) } := by
  have at1 : (s.heap.push (fresh led)).get? s.heap.objs.size = some (fresh led) := Heap.get?_push_size _ rfl
  have ty1 : Shared.TypeIs { s with heap := s.heap.push (fresh led) } (.ref s.heap.objs.size) "set" := ⟨_, at1, rfl⟩
  obtain ⟨⟨oc, odict, od, osl⟩, ho, hc, nl, hd⟩ := hl
  simp only at hc hd
  subst hc hd
  have ho1 : (s.heap.push (fresh led)).get? l = some { cls := .type "list", dict := odict, data := .seq items nl, slots := osl } := Heap.get?_push_of_some _ ho
  have b1 := PySem.F.sub_list_set
  have b2 := PySem.F.sub_list_frozenset
  have b3 : (Value.type "list" == Value.type "dict") = false := by decide
  have hl1 : (s.heap.push (fresh led)).IsList l items := ⟨_, ho1, rfl, nl, rfl⟩
  unfold Builtin.«set.__init__» noKeywords Builtin.Frozenset.updateFrom
  generalize hPI : pyIter = PI
  wp_walk
  subst hPI
  refine wpAny_pyIter_list hl1 ?_
  refine wpAny_bind (wpAny_runValue ?_)
  have lS : l < s.heap.objs.size := Heap.lt_size ho
  have h1 : A.in1.handled = none := by simp [hh]
  have sz : (s.heap.push (fresh led)).objs.size = s.heap.objs.size + 1 := Heap.size_push ..
  have nI : l ≠ (s.heap.push (fresh led)).objs.size := by
    rw [sz]
    exact Nat.ne_of_lt (Nat.lt_succ_of_lt lS)
  have nf : s.heap.objs.size ∉ [(s.heap.push (fresh led)).objs.size, l] := by
    rw [sz]
    intro q
    rcases List.mem_cons.mp q with q | q
    · exact absurd q (Nat.ne_of_lt (Nat.lt_succ_self _))
    · exact absurd (List.mem_singleton.mp q) (Nat.ne_of_gt lS)
  refine fill (knd := knd) ((Walks.list h1 _ l nI items).toS) nf ks hn hroom hval (items.size - 0) 0 _ rfl (Nat.zero_le _) ⟨⟨_, Heap.get?_push_size _ rfl, rfl, rfl⟩, hl1.push _⟩ ?_ ?_
  · have at2 : ((s.heap.push (fresh led)).push { cls := .type "list_iterator", data := .fields #[.ref l, .int 0 0] }).get? s.heap.objs.size = some (fresh led) := Heap.get?_push_of_some _ at1
    exact setOf_eq ((PyProof.Rows.setObjOf_fresh (knd := knd) led).setOf at2 (by unfold scanBound; omega)) (fun _ => by simp [inU, uniq]) (by simp [uniq])
  · intro s2 mv z
    obtain ⟨h2, g2, d2, t2, o2⟩ := s2
    obtain rfl : g2 = s.gens := mv.gens
    obtain rfl : d2 = s.drawn := mv.drawn
    obtain rfl : o2 = s.os := mv.os
    refine wpAny_pure (wpAny_pure ⟨rfl, h2, t2, rfl, ?_, fun b o e => ?_⟩)
    · rw [← hn, List.take_length] at z
      exact z
    · have bS : b < s.heap.objs.size := Heap.lt_size e
      refine mv.heap b o (fun q => ?_) (Heap.get?_push_of_some _ (Heap.get?_push_of_some _ e))
      rcases List.mem_cons.mp q with q | q
      · exact absurd q (Nat.ne_of_lt bS)
      · have q' := List.mem_singleton.mp q
        rw [sz] at q'
        exact absurd q' (Nat.ne_of_lt (Nat.lt_succ_of_lt bS))
/-- set.__init__ over a tuple -/
theorem init_tuple {l : Addr} {items : Array Value} {ks : List K} (led : Bool) (hh : A.handled = none) (hl : s.heap.IsTuple l items) (hn : ks.length = items.size) (hroom : items.size + 1 < scanBound)
    (hval : ∀ (i : Nat) (v : Value), items[i]? = some v → ∃ k, ks[i]? = some k ∧ knd.is k v = true ∧ v.scannable = true) :
    wpAny (model prog w) A (Builtin.«set.__init__» ⟨[.ref s.heap.objs.size, .ref l], []⟩) (fun r s2 => r = .done (.ret .none) ∧ Left knd s ks s2) E { s with heap := s.heap.push (fresh led) } := by
  have at1 : (s.heap.push (fresh led)).get? s.heap.objs.size = some (fresh led) := Heap.get?_push_size _ rfl
  have ty1 : Shared.TypeIs { s with heap := s.heap.push (fresh led) } (.ref s.heap.objs.size) "set" := ⟨_, at1, rfl⟩
  obtain ⟨⟨oc, odict, od, osl⟩, ho, hc, nl, hd⟩ := hl
  simp only at hc hd
  subst hc hd
  have ho1 : (s.heap.push (fresh led)).get? l = some { cls := .type "tuple", dict := odict, data := .seq items nl, slots := osl } := Heap.get?_push_of_some _ ho
  have b1 := PySem.F.sub_tuple_set
  have b2 := PySem.F.sub_tuple_frozenset
  have b3 : (Value.type "tuple" == Value.type "dict") = false := by decide
  have hl1 : (s.heap.push (fresh led)).IsTuple l items := ⟨_, ho1, rfl, nl, rfl⟩
  unfold Builtin.«set.__init__» noKeywords Builtin.Frozenset.updateFrom
  generalize hPI : pyIter = PI
  wp_walk
  subst hPI
  refine wpAny_pyIter_tuple hl1 ?_
  refine wpAny_bind (wpAny_runValue ?_)
  have lS : l < s.heap.objs.size := Heap.lt_size ho
  have h1 : A.in1.handled = none := by simp [hh]
  have sz : (s.heap.push (fresh led)).objs.size = s.heap.objs.size + 1 := Heap.size_push ..
  have nI : l ≠ (s.heap.push (fresh led)).objs.size := by
    rw [sz]
    exact Nat.ne_of_lt (Nat.lt_succ_of_lt lS)
  have nf : s.heap.objs.size ∉ [(s.heap.push (fresh led)).objs.size, l] := by
    rw [sz]
    intro q
    rcases List.mem_cons.mp q with q | q
    · exact absurd q (Nat.ne_of_lt (Nat.lt_succ_self _))
    · exact absurd (List.mem_singleton.mp q) (Nat.ne_of_gt lS)
  refine fill (knd := knd) ((Walks.tuple h1 _ l nI items).toS) nf ks hn hroom hval (items.size - 0) 0 _ rfl (Nat.zero_le _) ⟨⟨_, Heap.get?_push_size _ rfl, rfl, rfl⟩, hl1.push _⟩ ?_ ?_
  · have at2 : ((s.heap.push (fresh led)).push { cls := .type "tuple_iterator", data := .fields #[.ref l, .int 0 0] }).get? s.heap.objs.size = some (fresh led) := Heap.get?_push_of_some _ at1
    exact setOf_eq ((PyProof.Rows.setObjOf_fresh (knd := knd) led).setOf at2 (by unfold scanBound; omega)) (fun _ => by simp [inU, uniq]) (by simp [uniq])
  · intro s2 mv z
    obtain ⟨h2, g2, d2, t2, o2⟩ := s2
    obtain rfl : g2 = s.gens := mv.gens
    obtain rfl : d2 = s.drawn := mv.drawn
    obtain rfl : o2 = s.os := mv.os
    refine wpAny_pure (wpAny_pure ⟨rfl, h2, t2, rfl, ?_, fun b o e => ?_⟩)
    · rw [← hn, List.take_length] at z
      exact z
    · have bS : b < s.heap.objs.size := Heap.lt_size e
      refine mv.heap b o (fun q => ?_) (Heap.get?_push_of_some _ (Heap.get?_push_of_some _ e))
      rcases List.mem_cons.mp q with q | q
      · exact absurd q (Nat.ne_of_lt bS)
      · have q' := List.mem_singleton.mp q
        rw [sz] at q'
        exact absurd q' (Nat.ne_of_lt (Nat.lt_succ_of_lt bS))
end
end Km

set_option Elab.async false
set_option linter.all false
set_option maxRecDepth 100000
set_option maxHeartbeats 2000000
namespace L2
open PySem PySem.Spec PyProof.Rows
/-- set(x), x a list or a tuple of ints and texts -/
def rSetK (P : Program) (w : World) (K : PySem.W.Frag) : List V → Hp → VK → Prop := fun xs H Q => ∃ (l : Addr) (ks : List Key), xs = [.ref l] ∧ (SqL K H l (ks.map kV) ∨ SqT K H l (ks.map kV)) ∧ ks.length ≤ 1000 ∧
  ∀ p, H p = none → Q (.ref p) (upd H p (SetK P w p (Km.inU ks ks.length) (Km.uniq ks).length))
section
variable {X : Cx}
theorem km_keys_at {P : Program} {w : World} {ks : List Key} {its : List Value} (r : Vals (ks.map kV) its) (i : Nat) (v : Value) (h : its.toArray[i]? = some v) : ∃ k, ks[i]? = some k ∧ (mixKind P w).is k v = true ∧ v.scannable = true := by
  have h2 : its[i]? = some v := by simpa using h
  have hl : i < ks.length := by
    have e := r.length
    rw [List.length_map] at e
    rw [e]
    exact (List.getElem?_eq_some_iff.mp h2).1
  obtain ⟨u, hu, ru⟩ := r.get (i := i) (x := kV ks[i]) (by simp [hl])
  rw [h2] at hu
  cases hu
  exact ⟨ks[i], List.getElem?_eq_getElem hl, kV_is ru, key_scan ru⟩
theorem cr_setK (hc : X.calm = true) : CallR X (.type "set") (rSetK X.prog X.w X.K) := by
  intro pins s σ H xs us Q I r h
  obtain ⟨l, ks, rfl, hq, hroom, q⟩ := h
  rw [Vals.ref1 r]
  have hd := I.ok.hd hc
  have fin : ∀ s2, Km.Left (mixKind X.prog X.w) s ks s2 → EP X pins σ Q (.ref s.heap.objs.size) s2 := fun s2 ⟨h2, tk, e, z, k⟩ => by
    subst e
    exact ⟨.ref _, _, I.laid (t' := tk) k (Nat.le_refl _) (setK_new z), rfl, q _ (I.hok.fresh (Nat.le_refl _))⟩
  rcases hq with hq | hq
  · obtain ⟨its, rr, pl, hz⟩ := I.list hq
    have hn : ks.length = its.toArray.size := by rw [List.size_toArray, ← rr.length, List.length_map]
    exact Km.set_of_init (knd := mixKind X.prog X.w) (ks := ks) (fun led B hB => Km.init_list led (hB hd) pl.isList hn (by unfold scanBound; omega) (km_keys_at rr)) fin
  · obtain ⟨its, rr, pl, hz⟩ := I.tuple hq
    have hn : ks.length = its.toArray.size := by rw [List.size_toArray, ← rr.length, List.length_map]
    exact Km.set_of_init (knd := mixKind X.prog X.w) (ks := ks) (fun led B hB => Km.init_tuple led (hB hd) pl hn (by unfold scanBound; omega) (km_keys_at rr)) fin
/-- len(S) -/
def rLenK (P : Program) (w : World) : List V → Hp → VK → Prop := fun xs H Q => ∃ (a : Addr) (S : Key → Bool) (n : Nat), xs = [.ref a] ∧ H a = some (SetK P w a S n) ∧ n ≤ 1000 ∧ Q (.int n) H
theorem cr_lenK : CallR X (.builtin "len") (rLenK X.prog X.w) := by
  intro pins s σ H xs us Q I r h
  obtain ⟨a, S, n, rfl, ha, hn, q⟩ := h
  rw [Vals.ref1 r]
  obtain ⟨o, es, ep, t, ho, hex, hd, _, _, _, hf, hz⟩ := setK_get I ha
  refine call_len_set ho hex hd hf (by rw [hz]; omega) ⟨.int n, H, I.tok _, ⟨_, by rw [hz]⟩, q⟩
end
end L2
namespace L2
open PySem PySem.Spec PyProof.Rows
theorem same_new {H : Hp} {p : Addr} {o : HO} (h : H p = none) : Same H (upd H p o) := fun b x e => by
  rw [upd_ne (ne_of_none e h)]
  exact e
/-- a new object: from then on the heap is a letter -/
theorem newH {H : Hp} {p : Addr} {o : HO} (n : H p = none) {P : Hp → Prop} (h : ∀ H2, Same H H2 → H2 p = some o → P H2) : P (upd H p o) := h _ (same_new n) upd_same
section
variable {J : It} {n : Nat} {G : Hp → Prop}
/-- a comprehension without a test whose element keeps what was tracked -/
theorem lc_map {xs ys : List V} (w : Walk J n G (YAt xs)) (hy : ys.length = n) (hsz : n < sizeLine) {slot : Nat} {te : TE} {vs : List Nat} {σ : St} {H1 : Hp} {D : Addr} {Qd : Hp → Prop} (hD : H1 D = none)
    (hG : ∀ H, Same H1 H → G H) (hw : ∀ x, wipe ((wipe σ vs).set slot (some x)) vs = wipe σ vs)
    (hs : ∀ (i : Nat) (x y : V) (H : Hp) (Q : VK), xs[i]? = some x → ys[i]? = some y → Same H1 H → (∀ H4, Same H H4 → Q y H4) → te ((wipe σ vs).set slot (some x)) H Q)
    (hd : ∀ H, Same H1 H → H D = some (.lst ys) → Qd H) :
    ∃ W : Nat → Nat → Hp → Prop, (∃ m, W 0 m (upd H1 D (.lst []))) ∧ ∀ i m H, W i m H →
      (J.stop i H ∧ Qd H) ∨ (J.go i H ∧ ∃ Nx : Hp → Prop, (∀ H', Nx H' → ∃ m', m' < m ∧ W (i + 1) m' H') ∧ ∀ x H', J.yld i H x H' → gName slot x (wipe σ vs) H' fun σ2 H2 => wipe σ2 vs = wipe σ vs ∧ tYes σ2 H2 fun b H3 =>
        if b = true then te σ2 H3 fun y H4 => ∃ acc, H4 D = some (.lst acc) ∧ acc.length < sizeLine ∧ Nx (upd H4 D (.lst (acc ++ [y]))) else Nx H3) := by
  refine lc_it w (fun i H => Same H1 H ∧ H D = some (.lst (ys.take i))) ⟨same_new hD, upd_same⟩ (fun i H _ h => hG H h.1) (fun i x H H' hi h y => ?_) (fun H h => hd H h.1 (by rw [h.2, ← hy, List.take_length]))
  obtain ⟨s1, hl⟩ := h
  obtain ⟨rfl, hx⟩ := y
  have hyi : ys[i]? = some (ys[i]'(by omega)) := List.getElem?_eq_getElem (by omega)
  refine ⟨hw x, ?_⟩
  unfold tYes
  dsimp only
  rw [if_pos rfl]
  refine hs i x _ H' _ hx hyi s1 fun H4 s4 => ⟨ys.take i, s4 _ _ hl, ?_, ?_, ?_⟩
  · rw [List.length_take]
    omega
  · intro b o e
    rw [upd_ne (ne_of_none e hD)]
    exact s4 _ _ (s1 _ _ e)
  · rw [upd_same, List.take_add_one, hyi]
    rfl
end
section
variable {X : Cx} {CX : CXT} {k : Nat} {f C : Addr} {fd : FuncData} {ps : List Str} {sp : Sp} {E : St → XK} {x : Str} {p pos : Pos} {e : Expr} {es : List Expr} {t : TA}
/-- C(e, ..) where what its __init__ raises is wished for at the caller's slots -/
def tMakeS (C : Addr) (sp : Sp) (E : St → XK) (t : TA) : TE := fun σ H Q => t σ H fun vs H1 => ∀ x dx, H1 x = none → H1 dx = none → dx ≠ x → sp (.ref x :: vs) (upd (upd H1 dx (.own x)) x (.ins C dx [])) (fun v H2 => v = .non ∧ Q (.ref x) H2) (E σ)
theorem pe_makeS (M : Mk X.K C f) (F : FnOk X.prog X.w X.K X.mg X.base CX k f fd ps sp) (hr : Room (k + 1) X.A) (hg : Gl X x) (hm : X.mg x = some (.ref C)) (hb : Binds X.K fd ps []) (hx : ∀ σ, PassesAt CX X σ (E σ))
    (ha : PA X (e :: es) t) (hdb : (x == ("__debug__" : Str)) = false := by decide) (he : starEach (e :: es) X.env = (false, eval e X.env) :: starEach es X.env := by rfl) (hpl : (backTo pos (starEach es X.env)).any (·.1) = false := by rfl) :
    PE X (.Call (.Name x p) (e :: es) [] pos) (tMakeS C sp E t) := by
  constructor
  intro pins s σ H Q I h
  refine wpAny_Call_Name_kw (ld_glob I hg hm ?_ hdb)
  refine PySem.W.callWith_K (h₀ := X.base) I.ok.mod.kin M.kp (thn (ha.run pos pins s σ H _ I h) fun us s1 q0 => ?_) he hpl
  obtain ⟨vs, H1, I1, r, q⟩ := q0
  refine ⟨I1.kIn, ?_⟩
  have q1 := q (s1.heap.objs.size + 1) s1.heap.objs.size (I1.hok.fresh (Nat.le_succ _)) (I1.hok.fresh (Nat.le_refl _)) (Nat.ne_of_lt (Nat.lt_succ_self _))
  have I2 := Inv.made (C := C) I1
  have r2 : Vals (V.ref (s1.heap.objs.size + 1) :: vs) (Value.ref (s1.heap.objs.size + 1) :: us) := .cons rfl r
  have hl : (Value.ref (s1.heap.objs.size + 1) :: us).length = ps.length := by
    rw [← r2.length]
    exact F.len _ _ _ _ q1
  have b := hb _ (Value.ref (s1.heap.objs.size + 1) :: us) I2.kIn (by rw [List.append_nil]; exact hl)
  rw [List.append_nil] at b
  refine wpAny_call (make_map (f := f) I1.kIn M.makes M.init (beq_iff_eq.mp M.fn) (codeAny_mono (F.run _ X.stack _ _ ⟨_ :: us, []⟩ _ _ _ (E σ) (hr.make C us []) (I2.env0.make C us []) b r2 q1) fun z s2 hz => ?_))
  cases z with
  | error err => exact hx σ pins _ _ err s2 I2 hz
  | ok fl =>
    cases fl with
    | ret u =>
      obtain ⟨v, H3, I3, rv, ev, q3⟩ := I2.after hz
      subst ev
      exact ⟨rv, V.ref _, H3, I3, rfl, q3⟩
    | next => exact False.elim hz
    | brk => exact False.elim hz
    | cont => exact False.elim hz
end
/-- isinstance(e, c), e the exception that the suite holds, with its own dict or without -/
def rIsX (K : PySem.W.Frag) (D a : Addr) (cls : Value) (d : Option Addr) : List V → Hp → VK → Prop := fun xs H Q => ∃ (c : V) (cv : Value) (b : Bool), xs = [.ref a, c] ∧ (∀ u, RelV c u → u = cv) ∧ cls = .ref D ∧ (∀ dx, d = some dx → ∃ fs, H dx = some (.xd fs)) ∧ PySem.W.kitOne K (.ref D) cv = some b ∧ Q (.bl b) H
theorem call_isX {X : Cx} {a D : Addr} {oe : Obj} {cls : Value} {d : Option Addr} {pn : List (Addr × Obj)} (C : ExcC X.K D) (hz : Zc cls d oe) (hf : ∃ vs, oe.data = .fields vs) :
    CallR (X.suite a ((a, oe) :: pn)) (.builtin "isinstance") (rIsX X.K D a cls d) := by
  intro pins s σ H xs us Q I r h
  obtain ⟨c, cv, b, rfl, hcv, ecl, hd, e, q⟩ := h
  obtain ⟨u1, u2, rfl, r1, r2⟩ := vals2 r
  cases r1
  obtain rfl := hcv _ r2
  obtain ⟨hget, _⟩ := I.pin (a, oe) (List.mem_append.mpr (.inl List.mem_cons_self))
  obtain ⟨vs, hv⟩ := hf
  obtain ⟨h1, h2⟩ := hz
  have hcl : (PySem.W.clsIn X.K D).isSome = true := by
    obtain ⟨cd, hc, _⟩ := PySem.W.any_some C.hd
    rw [hc] <;> rfl
  have nc : PySem.W.notCls oe = true := by
    unfold PySem.W.notCls
    rw [hv] <;> rfl
  rw [ecl] at h1
  have J : ∃ od, PySem.W.InstAt s.heap a oe D od := by
    cases d with
    | none => exact ⟨none, hget, h1, nc, by rw [h2]; trivial⟩
    | some dx =>
      obtain ⟨fs, hx⟩ := hd dx rfl
      have z : ObjOk X.prog X.w H s.heap dx (.xd fs) := I.hok dx _ hx
      obtain ⟨mA, hns, _⟩ := z
      obtain ⟨od, ho, _⟩ := lookIn_ns hns
      exact ⟨some od, hget, h1, nc, by rw [h2]; exact ho⟩
  obtain ⟨od, J⟩ := J
  exact PySem.W.kia_one (PySem.W.kitx_exc hcl C.hg C.hk C.hs C.ha C.hn C.ht C.hm) I.kIn J e (fun z => nomatch z) fun tk => ⟨.bl b, H, I.kept (t' := tk) fun _ _ z => z, rfl, q⟩
end L2
namespace L2
open PySem PySem.Spec PyProof.Rows
section
variable {X : Cx} {e : Expr} {t : TE} {st : Stmt} {u : TS}
/-- an expression by a contract: ways meet -/
def tCut (P : St → Hp → V → Hp → Prop) (t : TE) : TE := fun σ H Q => t σ H (P σ H) ∧ ∀ v H', P σ H v H' → Q v H'
theorem pe_cut (P : St → Hp → V → Hp → Prop) (h : PE X e t) : PE X e (tCut P t) := ⟨fun pins s σ H Q I z => thn (h.run pins s σ H _ I z.1) fun _ _ q => by
  obtain ⟨x, H1, I1, r, p⟩ := q
  exact ⟨x, H1, I1, r, z.2 x H1 p⟩⟩
end
/-! the pool of the laws: two numbers -/
def Pool (H : Hp) (a : Addr) : Prop := ∃ g q : Int, H a = some (.lst [.int g, .int q]) ∧ 0 ≤ g ∧ 0 ≤ q ∧ q < 2147483647
/-- all but what stands at a is as it was -/
def But (a : Addr) (H H' : Hp) : Prop := ∀ b o, b ≠ a → H b = some o → H' b = some o
theorem But.of_same {a : Addr} {H H' : Hp} (s : Same H H') : But a H H' := fun b o _ e => s b o e
theorem But.upd {a : Addr} {H : Hp} {o : HO} : But a H (upd H a o) := fun b _ n e => by
  rw [upd_ne n]
  exact e
theorem But.trans {a : Addr} {H H1 H2 : Hp} (x : But a H H1) (y : But a H1 H2) : But a H H2 := fun b o n e => y b o n (x b o n e)
theorem But.same {a : Addr} {H H1 : Hp} (x : But a H H1) (n : H a = none) : Same H H1 := fun b o e => x b o (ne_of_none e n) e
theorem perm_pop {α : Type} : ∀ {l : List α} {k : Nat} {y : α}, l[k]? = some y → (y :: l.eraseIdx k).Perm l
  | [], _, _, h => by simp at h
  | a :: l, 0, y, h => by
    have e : a = y := Option.some.inj h
    rw [e]
    exact .refl _
  | a :: l, k + 1, y, h => (List.Perm.swap a y _).trans ((perm_pop (l := l) h).cons a)
theorem eraseIdx_map {α β : Type} (f : α → β) : ∀ (l : List α) (k : Nat), (l.map f).eraseIdx k = (l.eraseIdx k).map f
  | [], _ => rfl
  | _ :: _, 0 => rfl
  | a :: l, k + 1 => congrArg (f a :: ·) (eraseIdx_map f l k)
def names8 : List Str := ["ann", "bo", "cy", "dee", "eve", "fay", "gus", "z"]
theorem names8_nd : names8.Nodup := by decide +kernel
def spOpened (K : PySem.W.Frag) : Sp := fun vs H Q _ => ∃ (a : Addr) (ns : List Int) (k : Nat), vs = [.ref a, .int k] ∧ SqL K H a (ns.map V.int) ∧ k ≤ 62 ∧
  ∀ H' p, Same H H' → H p = none → Pool H' p → Q (.ref p) H'
def spDraw : Sp := fun vs H Q _ => ∃ (a : Addr) (m : Int), vs = [.ref a, .int m] ∧ Pool H a ∧ 1 ≤ m ∧ m ≤ 1000 ∧ ∀ (r : Int) H', 0 ≤ r → r < m → Pool H' a → But a H H' → Q (.int r) H'
def spPeople : Sp := fun vs H Q _ => ∃ (a : Addr) (m : Nat), vs = [.ref a, .int m] ∧ Pool H a ∧ m ≤ 8 ∧
  ∀ H' p (xs : List Str), Pool H' a → But a H H' → H p = none → H' p = some (.lst (xs.map V.str)) → xs.length = m → xs.Nodup → (∀ x ∈ xs, x ∈ names8) → Q (.ref p) H'
end L2
namespace L2
open PySem PySem.Spec PyProof.Rows
/-! types of any values -/
def knownT : List String := ["NoneType", "bool", "int", "str", "list", "tuple", "dict"]
def TyN (K : PySem.W.Frag) (H : Hp) (v : V) (T : String) : Prop := TyX K H v (.type T) ∧ T ∈ knownT
section
variable {K : PySem.W.Frag} {H H' : Hp} {v : V} {T : String}
theorem TyX.same {t : Value} (s : Same H H') (h : TyX K H v t) : TyX K H' v t := by
  cases h with
  | base b =>
    refine .base ?_
    cases b with
    | non => exact .non
    | bl x => exact .bl x
    | int i => exact .int i
    | str x => exact .str x
    | flt x => exact .flt x
    | lst e => exact .lst (s _ _ e)
    | frz e => exact .frz (s _ _ e)
    | tup e => exact .tup (s _ _ e)
    | dK e => exact .dK (s _ _ e)
    | dT e => exact .dT (s _ _ e)
    | ins e cl ha hn htk hm => exact .ins (s _ _ e) cl ha hn htk hm
  | byt b => exact .byt b
  | set e => exact .set (s _ _ e)
  | kList e c => exact .kList e c
  | kTuple e c => exact .kTuple e c
  | kDict e c => exact .kDict e c
  | fTuple e => exact .fTuple (s _ _ e)
  | fDict e => exact .fDict (s _ _ e)
theorem TyN.same (s : Same H H') (h : TyN K H v T) : TyN K H' v T := ⟨TyX.same s h.1, h.2⟩
theorem kit_str (h : T ∈ knownT) : kitB T "str" = some (decide (T = "str")) := by
  simp only [knownT, List.mem_cons, List.not_mem_nil, or_false] at h
  rcases h with rfl | rfl | rfl | rfl | rfl | rfl | rfl <;> decide +kernel
theorem kit_bool (h : T ∈ knownT) : kitB T "bool" = some (decide (T = "bool")) := by
  simp only [knownT, List.mem_cons, List.not_mem_nil, or_false] at h
  rcases h with rfl | rfl | rfl | rfl | rfl | rfl | rfl <;> decide +kernel
theorem kit_int (h : T ∈ knownT) : kitB T "int" = some (decide (T = "int") || decide (T = "bool")) := by
  simp only [knownT, List.mem_cons, List.not_mem_nil, or_false] at h
  rcases h with rfl | rfl | rfl | rfl | rfl | rfl | rfl <;> decide +kernel
theorem kit_list (h : T ∈ knownT) : kitB T "list" = some (decide (T = "list")) := by
  simp only [knownT, List.mem_cons, List.not_mem_nil, or_false] at h
  rcases h with rfl | rfl | rfl | rfl | rfl | rfl | rfl <;> decide +kernel
theorem kit_tuple (h : T ∈ knownT) : kitB T "tuple" = some (decide (T = "tuple")) := by
  simp only [knownT, List.mem_cons, List.not_mem_nil, or_false] at h
  rcases h with rfl | rfl | rfl | rfl | rfl | rfl | rfl <;> decide +kernel
theorem kit_listTuple (h : T ∈ knownT) : PySem.W.kitAny K (.type T) [.type "list", .type "tuple"] = some (decide (T = "list") || decide (T = "tuple")) := by
  refine kitAny_cons (kit_ty (kit_list h)) (fun e => ?_) fun e => ?_
  · rw [e, Bool.false_or]
    exact kitAny_cons (kit_ty (kit_tuple h)) (fun e => by rw [e]; exact kitAny_nil) fun e => e
  · rw [e]
    rfl
theorem ty_str' {t : Value} (h : TyX K H v t) (e : t = .type "str") : ∃ z, v = .str z := by
  cases h with
  | base b =>
    cases b with
    | str x => exact ⟨x, rfl⟩
    | ins e2 cl ha hn htk hm => cases e
    | _ =>
      injection e with e
      exact absurd e (by decide)
  | _ =>
    injection e with e
    exact absurd e (by decide)
theorem ty_str (h : TyX K H v (.type "str")) : ∃ z, v = .str z := ty_str' h rfl
theorem ty_int' {t : Value} (h : TyX K H v t) (e : t = .type "int") : ∃ z, v = .int z := by
  cases h with
  | base b =>
    cases b with
    | int x => exact ⟨x, rfl⟩
    | ins e2 cl ha hn htk hm => cases e
    | _ =>
      injection e with e
      exact absurd e (by decide)
  | _ =>
    injection e with e
    exact absurd e (by decide)
theorem ty_int (h : TyX K H v (.type "int")) : ∃ z, v = .int z := ty_int' h rfl
theorem str_ty {z : Str} (h : TyX K H (.str z) (.type T)) : T = "str" := by
  cases h with
  | base b => cases b with
    | str x => rfl
theorem int_ty {i : Int} (h : TyX K H (.int i) (.type T)) : T = "int" := by
  cases h with
  | base b => cases b with
    | int x => rfl
end
/-! words -/
def letters : Str := "abcdefghijklmnopqrstuvwxyz"
def wordB (z : Str) : Bool := (decide (1 ≤ z.length) && decide (z.length ≤ 8)) && z.cps.toList.all fun c => decide (c ∈ letters.cps.toList)
def isW : V → Bool
  | .str z => wordB z
  | _ => false
def peopleB (xs : List V) : Bool := (decide (1 ≤ xs.length) && decide (xs.length ≤ 8)) && (xs.all isW && decide xs.Nodup)
def markB (lo hi : Int) : V → Bool
  | .int i => decide (lo ≤ i) && decide (i ≤ hi)
  | _ => false
/-- an item that may stand in what is given for people -/
def ItemOk (K : PySem.W.Frag) (H : Hp) (x : V) : Prop := (∃ T, TyN K H x T) ∧ ∀ z, x = .str z → z.length ≤ 1000
theorem ItemOk.same {K : PySem.W.Frag} {H H' : Hp} {x : V} (s : Same H H') (h : ItemOk K H x) : ItemOk K H' x := by
  obtain ⟨⟨T, t⟩, z⟩ := h
  exact ⟨⟨T, t.same s⟩, z⟩
/-- any value given for people: whether it is people, and its items -/
inductive ArgP (K : PySem.W.Frag) (H : Hp) : V → Bool → List V → Prop where
  | no {v : V} {T : String} (t : TyN K H v T) (h1 : T ≠ "list") (h2 : T ≠ "tuple") : ArgP K H v false []
  | lst {a : Addr} {xs : List V} (e : H a = some (.lst xs)) (h : ∀ x ∈ xs, ItemOk K H x) (hl : xs.length ≤ 1000) : ArgP K H (.ref a) (peopleB xs) xs
  | tup {a : Addr} {xs : List V} (e : H a = some (.tup xs)) (h : ∀ x ∈ xs, ItemOk K H x) (hl : xs.length ≤ 1000) : ArgP K H (.ref a) (peopleB xs) xs
theorem ArgP.same {K : PySem.W.Frag} {H H' : Hp} {v : V} {b : Bool} {xs : List V} (s : Same H H') (h : ArgP K H v b xs) : ArgP K H' v b xs := by
  cases h with
  | no t h1 h2 => exact .no (t.same s) h1 h2
  | lst e h hl => exact .lst (s _ _ e) (fun x hx => (h x hx).same s) hl
  | tup e h hl => exact .tup (s _ _ e) (fun x hx => (h x hx).same s) hl
def spIsInteger (K : PySem.W.Frag) : Sp := fun vs H Q _ => ∃ (v : V) (T : String), vs = [v] ∧ TyN K H v T ∧ Q (.bl (decide (T = "int"))) H
def spWithin (K : PySem.W.Frag) : Sp := fun vs H Q _ => ∃ (v : V) (lo hi : Int), vs = [v, .int lo, .int hi] ∧ (∃ T, TyN K H v T) ∧ Q (.bl (markB lo hi v)) H
def spIsWord (K : PySem.W.Frag) : Sp := fun vs H Q _ => ∃ v : V, vs = [v] ∧ ItemOk K H v ∧ ∀ H', Same H H' → Q (.bl (isW v)) H'
def spArePeople (K : PySem.W.Frag) : Sp := fun vs H Q _ => ∃ (v : V) (b : Bool) (xs : List V), vs = [v] ∧ ArgP K H v b xs ∧ ∀ H', Same H H' → Q (.bl b) H'
end L2
namespace L2
open PySem PySem.Spec PyProof.Rows
def kmSigns (z : Str) : List V := z.cps.toList.map fun c => V.str ⟨#[c]⟩
theorem walk_kmSigns {z : Str} : Walk (Its z) (kmSigns z).length (fun _ => True) (YAt (kmSigns z)) := by
  have e : (kmSigns z).length = z.cps.size := by
    unfold kmSigns
    rw [List.length_map, Array.length_toList]
  rw [e]
  refine walk_str.mono (fun _ h => h) fun i H x H' _ _ y => ?_
  obtain ⟨h, c, hc, hx⟩ := y
  refine ⟨h, ?_⟩
  unfold kmSigns
  rw [List.getElem?_map, Array.getElem?_toList, hc, hx]
  rfl
theorem all_bl (bs : List Bool) : (bs.map V.bl).length = bs.length := List.length_map ..
end L2
namespace L2
open PySem PySem.Spec PyProof.Rows
/-! an own error with one field -/
structure Er (K : PySem.W.Frag) (mg : Str → Option Value) (x : Str) (C : Addr) : Prop where
  g : mg x = some (.ref C)
  ox : OexC K C
  xf : XfC K C
  ec : ExcC K C
  exm : PySem.W.exmOne K (.ref C) (.ref C) = some true
def spErrInit (K : PySem.W.Frag) (C : Addr) (f : Str) : Sp := fun vs H Q _ => ∃ (a : Addr) (v : V), vs = [.ref a, v] ∧ OexC K C ∧ PySem.W.findIn K (.ref C) f = some none ∧ H a = some (exo a C none) ∧
  ∀ d, H d = none → d ≠ a → Q .non (upd (upd H d (exd d [(f, v)])) a (exo a C (some d)))
/-- what a raise of such an error leaves -/
def Raised (H H' : Hp) (d : Addr) (f : Str) (v : V) : Prop := Same H H' ∧ H d = none ∧ H' d = some (.xd [(f, v)])
theorem raised_mk {H : Hp} {a d C : Addr} {f : Str} {v : V} (na : H a = none) (nd : H d = none) (nda : d ≠ a) :
    Raised H (upd (del (upd (upd (upd H a (exo a C none)) d (exd d [(f, v)])) a (exo a C (some d))) a) d (.xd [(f, v)])) d f v := by
  refine ⟨fun b o e => ?_, nd, upd_same⟩
  rw [upd_ne (ne_of_none e nd), del_ne (ne_of_none e na), upd_ne (ne_of_none e na), upd_ne (ne_of_none e nd), upd_ne (ne_of_none e na)]
  exact e
theorem strs_of_isW : ∀ {xs : List V}, xs.all isW = true → ∃ zs : List Str, xs = zs.map V.str
  | [], _ => ⟨[], rfl⟩
  | x :: xs, h => by
    rw [List.all_cons, Bool.and_eq_true] at h
    obtain ⟨zs, rfl⟩ := strs_of_isW h.2
    cases x with
    | str z => exact ⟨z :: zs, rfl⟩
    | _ => cases h.1
theorem keys_of_strs (zs : List Str) : zs.map V.str = (zs.map (Sum.inr : Str → Key)).map kV := by
  rw [List.map_map]
  rfl
theorem nodup_map_inj {α β : Type} {f : α → β} (hf : ∀ a b, f a = f b → a = b) {l : List α} : (l.map f).Nodup ↔ l.Nodup := by
  induction l with
  | nil => simp
  | cons a l ih =>
    rw [List.map_cons, List.nodup_cons, List.nodup_cons, ih, List.mem_map]
    constructor
    · rintro ⟨h1, h2⟩
      exact ⟨fun h => h1 ⟨a, h, rfl⟩, h2⟩
    · rintro ⟨h1, h2⟩
      exact ⟨fun ⟨b, hb, e⟩ => h1 (hf _ _ e ▸ hb), h2⟩
theorem uniq_strs (zs : List Str) : decide (V.int ((Km.uniq (zs.map (Sum.inr : Str → Key))).length : Nat) = V.int ((zs.map V.str).length : Nat)) = decide (zs.map V.str).Nodup := by
  refine decide_eq_decide.mpr ?_
  have h1 := Km.uniq_full (zs.map (Sum.inr : Str → Key))
  rw [nodup_map_inj (f := (Sum.inr : Str → Key)) (fun _ _ e => Sum.inr.inj e), List.length_map] at h1
  rw [nodup_map_inj (f := V.str) (fun _ _ e => V.str.inj e), ← h1, List.length_map]
  constructor
  · intro e
    have := V.int.inj e
    omega
  · intro e
    rw [e]
end L2
namespace L2
open PySem PySem.Spec PyProof.Rows
/-- what a crowd's instance holds -/
def crowdFs (p : Addr) (m : Int) : List (Str × V) := [("_people", V.ref p), ("most", V.int m)]
def CrowdAt (H : Hp) (C x : Addr) (xs : List V) (m : Int) : Prop := ∃ dx p, H x = some (.ins C dx (crowdFs p m)) ∧ H p = some (.lst xs)
theorem CrowdAt.same {H H' : Hp} {C x : Addr} {xs : List V} {m : Int} (s : Same H H') (h : CrowdAt H C x xs m) : CrowdAt H' C x xs m := by
  obtain ⟨dx, p, h1, h2⟩ := h
  exact ⟨dx, p, s _ _ h1, s _ _ h2⟩
def spCrowdInit (K : PySem.W.Frag) (C CB : Addr) : Sp := fun vs H Q E => ∃ (x dx : Addr) (v m : V) (b : Bool) (xs : List V), vs = [.ref x, v, m] ∧ H x = some (.ins C dx []) ∧ ArgP K H v b xs ∧ (∃ T, TyN K H m T) ∧
  (b = false → ∀ H' d, Raised H H' d "part" (.str "people") → E (.ref CB) (some d) H') ∧
  (b = true → markB 1 10 m = false → ∀ H' d, Raised H H' d "part" (.str "most") → E (.ref CB) (some d) H') ∧
  (b = true → ∀ i, m = .int i → markB 1 10 m = true → ∀ H', But x H H' → CrowdAt H' C x xs i → Q .non H')
theorem putF_new {f : Str} {v : V} : putF f v [] = [(f, v)] := rfl
theorem crowd_put {p : Addr} {m : Int} : putF "most" (.int m) [(("_people" : Str), V.ref p)] = crowdFs p m := by
  show (if (("_people" : Str)) = "most" then _ else _) = _
  rw [if_neg (by decide +kernel)]
  rfl
end L2
namespace L2
open PySem PySem.Spec PyProof.Rows
theorem ArgP.seq {K : PySem.W.Frag} {H : Hp} {v : V} {b : Bool} {xs : List V} (h : ArgP K H v b xs) (e : b = true) : ∃ l, v = .ref l ∧ (SqL K H l xs ∨ SqT K H l xs) := by
  cases h with
  | no t h1 h2 => cases e
  | lst e1 h hl => exact ⟨_, rfl, .inl (SqL.of e1)⟩
  | tup e1 h hl => exact ⟨_, rfl, .inr (SqT.of e1)⟩
/-- what the law's own look at a making tells: taken, or the part -/
def toldP (b m : Bool) : Option Str := if b = false then some "people" else if m = false then some "most" else none
def spTold (K : PySem.W.Frag) : Sp := fun vs H Q _ => ∃ (v m : V) (b : Bool) (xs : List V), vs = [v, m] ∧ ArgP K H v b xs ∧ (∃ T, TyN K H m T) ∧
  (∀ H' p z, toldP b (markB 1 10 m) = some z → Same H H' → H' p = some (.lst [.str z, .bl true]) → Q (.ref p) H') ∧
  (toldP b (markB 1 10 m) = none → ∀ H', Same H H' → Q (.str "taken") H')
end L2
namespace L2
open PySem PySem.Spec PyProof.Rows
theorem rng_le (l c : Int) (hc : 1 ≤ c) : 1 ≤ (if (if c < l then c else l) > 1 then (if c < l then c else l) else (1 : Int)) ∧ (if (if c < l then c else l) > 1 then (if c < l then c else l) else (1 : Int)) ≤ c := by
  by_cases h : c < l
  · rw [if_pos h]
    split <;> omega
  · rw [if_neg h]
    split <;> omega
theorem names8_ok : ∀ z ∈ names8, wordB z = true ∧ z.length ≤ 8 := by decide +kernel
abbrev BadP (K : PySem.W.Frag) (H : Hp) (v : V) : Prop := ∃ xs, ArgP K H v false xs
theorem BadP.same {K : PySem.W.Frag} {H H' : Hp} {v : V} (s : Same H H') (h : BadP K H v) : BadP K H' v := by
  obtain ⟨xs, h⟩ := h
  exact ⟨xs, h.same s⟩
theorem ArgP.lst' {K : PySem.W.Frag} {H : Hp} {a : Addr} {xs : List V} {b : Bool} (e : H a = some (.lst xs)) (h : ∀ x ∈ xs, ItemOk K H x) (hl : xs.length ≤ 1000) (hb : peopleB xs = b) : ArgP K H (.ref a) b xs := by
  subst hb
  exact .lst e h hl
theorem ArgP.tup' {K : PySem.W.Frag} {H : Hp} {a : Addr} {xs : List V} {b : Bool} (e : H a = some (.tup xs)) (h : ∀ x ∈ xs, ItemOk K H x) (hl : xs.length ≤ 1000) (hb : peopleB xs = b) : ArgP K H (.ref a) b xs := by
  subst hb
  exact .tup e h hl
section
variable {K : PySem.W.Frag} {H : Hp}
theorem item_str {z : Str} (h : z.length ≤ 1000) : ItemOk K H (.str z) := ⟨⟨"str", .base (.str z), by decide⟩, fun y e => by
  rw [← V.str.inj e]
  exact h⟩
theorem item_non : ItemOk K H .non := ⟨⟨"NoneType", .base .non, by decide⟩, fun y e => by cases e⟩
theorem item_int {i : Int} : ItemOk K H (.int i) := ⟨⟨"int", .base (.int i), by decide⟩, fun y e => by cases e⟩
theorem item_bl {i : Bool} : ItemOk K H (.bl i) := ⟨⟨"bool", .base (.bl i), by decide⟩, fun y e => by cases e⟩
theorem item_lst {a : Addr} {xs : List V} (h : H a = some (.lst xs)) : ItemOk K H (.ref a) := ⟨⟨"list", .base (.lst h), by decide⟩, fun y e => by cases e⟩
/-- people as the laws draw them -/
structure Drawn8 (zs : List Str) : Prop where
  nd : zs.Nodup
  mem : ∀ z ∈ zs, z ∈ names8
theorem Drawn8.items {zs : List Str} (d : Drawn8 zs) : ∀ x ∈ zs.map V.str, ItemOk K H x := by
  intro x hx
  obtain ⟨z, hz, rfl⟩ := List.mem_map.mp hx
  exact item_str (Nat.le_trans (names8_ok z (d.mem z hz)).2 (by decide))
theorem Drawn8.allW {zs : List Str} (d : Drawn8 zs) : (zs.map V.str).all isW = true := by
  rw [List.all_eq_true]
  intro x hx
  obtain ⟨z, hz, rfl⟩ := List.mem_map.mp hx
  exact (names8_ok z (d.mem z hz)).1
theorem Drawn8.people {zs : List Str} (d : Drawn8 zs) (h1 : 1 ≤ zs.length) (h2 : zs.length ≤ 8) : peopleB (zs.map V.str) = true := by
  show ((decide (1 ≤ (zs.map V.str).length) && decide ((zs.map V.str).length ≤ 8)) && ((zs.map V.str).all isW && decide (zs.map V.str).Nodup)) = true
  rw [d.allW, List.length_map, decide_eq_true h1, decide_eq_true h2, decide_eq_true ((nodup_map_inj (f := V.str) (fun _ _ e => V.str.inj e)).mpr d.nd)]
  rfl
theorem not_people_of_isW {xs : List V} {y : V} (h : isW y = false) : peopleB (xs ++ [y]) = false := by
  show (_ && ((xs ++ [y]).all isW && _)) = false
  rw [List.all_append, List.all_cons, h, Bool.false_and, Bool.and_false, Bool.false_and, Bool.and_false]
theorem not_people_of_twice {x : V} {xs : List V} : peopleB ((x :: xs) ++ [x]) = false := by
  show (_ && (_ && decide ((x :: xs) ++ [x]).Nodup)) = false
  have : ¬ ((x :: xs) ++ [x]).Nodup := fun h => by
    rw [List.cons_append, List.nodup_cons] at h
    exact h.1 (List.mem_append_right _ (List.mem_singleton.mpr rfl))
  rw [decide_eq_false this, Bool.and_false, Bool.and_false]
theorem bad_append {a : Addr} {xs : List V} {y : V} (e : H a = some (.lst (xs ++ [y]))) (hx : ∀ x ∈ xs, ItemOk K H x) (hl : xs.length ≤ 8) (hy : ItemOk K H y) (h : isW y = false) : BadP K H (.ref a) :=
  ⟨_, .lst' e (fun x hm => by
    rcases List.mem_append.mp hm with hm | hm
    · exact hx x hm
    · rw [List.mem_singleton.mp hm]
      exact hy) (by rw [List.length_append, List.length_singleton]; omega) (not_people_of_isW h)⟩
end
section
variable {σ : St} {H : Hp} {Q : VK}
/-- l + [e] -/
theorem rd_cat1 {i : Nat} {l : Addr} {xs : List V} {te : TE} (y : V) (h : σ[i]? = some (some (.ref l))) (hl : H l = some (.lst xs)) (hx : xs.length ≤ 8)
    (hte : ∀ Q' : VK, (∀ H1, Same H H1 → Q' y H1) → te σ H Q') (k : ∀ H' p, Same H H' → H' p = some (.lst (xs ++ [y])) → Q (.ref p) H') : tOp rCat (tVar i) (tLst (tCons te tNil)) σ H Q := by
  refine ⟨_, h, hte _ fun H1 s1 => ⟨(by show 1 ≤ sizeLine; decide), fun b nb => ⟨l, b, xs, [y], rfl, rfl, same_new nb _ _ (s1 _ _ hl), upd_same, ?_, fun p np => ?_⟩⟩⟩
  · rw [List.length_singleton]
    exact Nat.le_of_lt (small1000 (by omega))
  · exact k _ p ((s1.trans (same_new nb)).trans (same_new np)) upd_same
theorem dp_told {K : PySem.W.Frag} {p : Addr} {z : Str} (h : H p = some (.lst [.str z, .bl true])) : Dp K H (.ref p) (.list [.str z, .bool true]) := .lst (SqL.of h) (.cons (.str z) (.cons (.bl true) .nil))
end
end L2
namespace L2
open PySem PySem.Spec PyProof.Rows
theorem shaped_taken : SeqAt.shaped (.str "taken") = true := by decide +kernel
theorem eqv_taken : PyData.eqv (.str "taken") (.str "taken") = true := by decide +kernel
theorem shaped_people : SeqAt.shaped (.list [.str "people", .bool true]) = true := by decide +kernel
theorem shaped_most : SeqAt.shaped (.list [.str "most", .bool true]) = true := by decide +kernel
theorem eqv_people : PyData.eqv (.list [.str "people", .bool true]) (.list [.str "people", .bool true]) = true := by decide +kernel
theorem eqv_most : PyData.eqv (.list [.str "most", .bool true]) (.list [.str "most", .bool true]) = true := by decide +kernel
end L2
namespace L2
open PySem PySem.Spec PyProof.Rows
theorem toldP_most {m : Bool} (h : m = false) : toldP true m = some "most" := by
  rw [h]
  rfl
theorem toldP_taken {m : Bool} (h : m = true) : toldP true m = none := by
  rw [h]
  rfl
end L2

set_option Elab.async false
set_option linter.all false
set_option maxRecDepth 100000
set_option maxHeartbeats 4000000
namespace K03
open PySem PySem.Spec PyProof.Rows L2
def topS (i : Nat) : Stmt := PySem.Challenge.pw_ownmarks_k03_crowds_refused.main.body.getD i (.Pass ⟨0, 0, 0, 0⟩)
abbrev sIsInteger : Stmt := topS 7
theorem scIsInteger : FnScope ["value"] ["value"] (defScope sIsInteger) := ⟨rfl, rfl, rfl, by decide +kernel, rfl, by decide +kernel, by decide +kernel⟩
abbrev sIsIntegerWithin : Stmt := topS 8
theorem scIsIntegerWithin : FnScope ["value", "least", "most"] ["value", "least", "most"] (defScope sIsIntegerWithin) := ⟨rfl, rfl, rfl, by decide +kernel, rfl, by decide +kernel, by decide +kernel⟩
abbrev sIsWord : Stmt := topS 9
theorem scIsWord : FnScope ["value", "sign"] ["value"] (defScope sIsWord) := ⟨rfl, rfl, rfl, by decide +kernel, rfl, by decide +kernel, by decide +kernel⟩
abbrev sBadCrowdInit : Stmt := inClass (topS 3) 0
theorem scBadCrowdInit : FnScope ["self", "part"] ["self", "part"] (defScope sBadCrowdInit) := ⟨rfl, rfl, rfl, by decide +kernel, rfl, by decide +kernel, by decide +kernel⟩
abbrev sArePeople : Stmt := topS 13
theorem scArePeople : FnScope ["value", "person"] ["value"] (defScope sArePeople) := ⟨rfl, rfl, rfl, by decide +kernel, rfl, by decide +kernel, by decide +kernel⟩
abbrev sCrowdInit : Stmt := inClass (topS 14) 0
theorem scCrowdInit : FnScope ["self", "people", "most"] ["self", "people", "most"] (defScope sCrowdInit) := ⟨rfl, rfl, rfl, by decide +kernel, rfl, by decide +kernel, by decide +kernel⟩
abbrev sOpened : Stmt := topS 16
theorem scOpened : FnScope ["_law_script", "_law_k", "_law_cell", "_law_great"] ["_law_script", "_law_k"] (defScope sOpened) := ⟨rfl, rfl, rfl, by decide +kernel, rfl, by decide +kernel, by decide +kernel⟩
abbrev sDraw : Stmt := topS 17
theorem scDraw : FnScope ["_law_pool", "_law_many", "_law_found"] ["_law_pool", "_law_many"] (defScope sDraw) := ⟨rfl, rfl, rfl, by decide +kernel, rfl, by decide +kernel, by decide +kernel⟩
abbrev sPeople : Stmt := topS 18
theorem scPeople : FnScope ["_law_pool", "_law_many", "_law_menu", "_law_found", "_law_step"] ["_law_pool", "_law_many"] (defScope sPeople) := ⟨rfl, rfl, rfl, by decide +kernel, rfl, by decide +kernel, by decide +kernel⟩
abbrev sTold : Stmt := topS 19
theorem scTold : FnScope ["_law_people_here", "_law_most", "e"] ["_law_people_here", "_law_most"] (defScope sTold) := ⟨rfl, rfl, rfl, by decide +kernel, rfl, by decide +kernel, by decide +kernel⟩
abbrev sLaw : Stmt := topS 20
theorem scLaw : FnScope ["_law_script", "_law_k", "_law_pool", "_law_people_here", "_law_most", "_law_wrong", "_law_odd"] ["_law_script"] (defScope sLaw) := ⟨rfl, rfl, rfl, by decide +kernel, rfl, by decide +kernel, by decide +kernel⟩
/-! ### the law's own draws -/
section
variable {P : Program} {w : World} {K : PySem.W.Frag} {mg : Str → Option Value} {base : Heap}
structure Bt (mg : Str → Option Value) : Prop where
  len : mg "len" = none
  max : mg "max" = none
  min : mg "min" = none
  int : mg "int" = none
  range : mg "range" = none
theorem ok_opened {f : Addr} {fd : FuncData} (F : Fun K "_law_opened" "_law_opened" sOpened f fd) (B : Bt mg) : FnOk P w K mg base CX0 1 f fd ["_law_script", "_law_k"] (spOpened K) := by
  refine F.ok scOpened (fun vs H Q E h => ?_) (fun cdv A outer s H vs Q E hr h => ?_)
  · obtain ⟨a, ns, k, rfl, _⟩ := h
    rfl
  · obtain ⟨a, ns, k, rfl, hS, hk, q⟩ := h
    refine ⟨_, pss_cons (ps_set (i := 2) scOpened.nd rfl (.inl rfl) (pe_cut (fun _ H v H' => H' = H ∧ ∃ z : Int, v = .int z) (pe_ifExp (pt_cmpR op_lt (pv 1) (pe_callB call_len_seq (by rfl) B.len PySem.boot_len (pa_cons (pv 0) pa_nil)) (nomark _)) (pe_ix ix_list (pv 0) (pv 1) (fun _ _ => rfl)) pe_int)))
      (pss_cons (ps_set (i := 3) scOpened.nd rfl (.inl rfl) (pe_callB (call_max2 rfl) (by rfl) B.max (by decide +kernel) (pa_cons (pe_callTy call_int1 (by rfl) B.int (by decide +kernel) (pa_cons (pv 2) pa_nil))
        (pa_cons (pe_callTy call_int1 (by rfl) B.int (by decide +kernel) (pa_cons (pe_op op_sub (pe_un un_neg pe_int) (pv 2)) pa_nil)) pa_nil))))
      (pss_one (ps_ret (pe_lst (pa_cons (pe_op op_mul (pv 3) (pe_callTy call_int1 (by rfl) B.int (by decide +kernel) (pa_cons (pe_cmpR op_ge (pv 3) (pe_op op_pow pe_int pe_int) (nomark _)) pa_nil)))
        (pa_cons (pe_op op_mod (pe_callTy call_int1 (by rfl) B.int (by decide +kernel) (pa_cons (pe_op op_mul (pe_op op_add (pe_op op_add (pe_op op_mod (pv 3) pe_int) (pe_op op_mul pe_int (pv 1))) pe_int) pe_int) pa_nil)) pe_int) pa_nil)))))), ?_⟩
    refine ⟨?_, ?_⟩
    · -- the cell
      refine ⟨_, rfl, _, rfl, _, _, rfl, .inl hS, _, _, rfl, rfl, _, rfl, ite2 (fun c => ?_) (fun _ => ⟨rfl, 5, rfl⟩)⟩
      have c1 : (k : Int) < ((ns.map V.int).length : Int) := of_decide_eq_true c
      have c2 : k < ns.length := by
        rw [List.length_map] at c1
        omega
      exact ⟨_, rfl, _, rfl, a, _, k, .int ns[k], rfl, rfl, hS, atI_nat (by rw [List.getElem?_map, List.getElem?_eq_getElem c2]; rfl), rfl, _, rfl⟩
    · rintro v H1 ⟨rfl, z, rfl⟩
      refine ⟨_, rfl, .inl ⟨_, rfl, 1, rfl, _, rfl, _, _, rfl, rfl, .inl ⟨_, rfl, _, _, rfl, ?_⟩⟩⟩
      generalize hg : (if (-1 : Int) - z > z then -1 - z else z) = g
      have g0 : 0 ≤ g := by
        rw [← hg]
        split <;> omega
      refine ⟨_, rfl, _, rfl, _, _, rfl, rfl, ⟨by decide, by decide, by decide⟩, _, _, rfl, rfl, .inr ⟨_, rfl, _, _, rfl, rfl, .inr ?_, ?_⟩⟩
      · split <;> omega
      · have km : 0 ≤ g % 2147483629 ∧ g % 2147483629 < 2147483629 := ⟨Int.emod_nonneg _ (by decide), Int.emod_lt_of_pos _ (by decide)⟩
        refine ⟨_, rfl, _, _, rfl, rfl, (by show (0 : Int) < 2147483629; decide), _, rfl, _, _, rfl, rfl, .inl ⟨by omega, by omega⟩, _, _, rfl, rfl, _, _, rfl, rfl, _, _, rfl, rfl, .inr ⟨by decide, by decide⟩, .inl ⟨_, rfl, _, _, rfl, rfl, (by show (0 : Int) < 2147483647; decide), ?_, fun p hp => ?_⟩⟩
        · show 2 ≤ sizeLine
          decide
        · refine newH hp fun H2 s2 h2 => q H2 p s2 hp ⟨_, _, h2, ?_, Int.emod_nonneg _ (by decide), Int.emod_lt_of_pos _ (by decide)⟩
          split
          · omega
          · omega
theorem pool_set0 {g q x : Int} : ([V.int g, V.int q]).set 0 (.int x) = [V.int x, V.int q] := rfl
theorem ok_draw {f : Addr} {fd : FuncData} (F : Fun K "_law_draw" "_law_draw" sDraw f fd) (B : Bt mg) : FnOk P w K mg base CX0 1 f fd ["_law_pool", "_law_many"] spDraw := by
  refine F.ok scDraw (fun vs H Q E h => ?_) (fun cdv A outer s H vs Q E hr h => ?_)
  · obtain ⟨a, m, rfl, _⟩ := h
    rfl
  · obtain ⟨a, m, rfl, ⟨g, q, ha, hg, hq0, hq1⟩, m1, m2, kk⟩ := h
    refine ⟨_, pss_cons (ps_if (pt_cmpR op_gt (pe_ix ix_list (pv 0) pe_int (fun _ _ => rfl)) pe_int (nomark _))
        (pss_cons (ps_set (i := 2) scDraw.nd rfl (.inl rfl) (pe_op op_modN (pe_callTy call_int1 (by rfl) B.int (by decide +kernel) (pa_cons (pe_ix ix_list (pv 0) pe_int (fun _ _ => rfl)) pa_nil)) (pv 1)))
        (pss_cons (ps_asg (pe_op op_fdivN (pe_ix ix_list (pv 0) pe_int (fun _ _ => rfl)) (pv 1)) (pg_sub (pv 0) pe_int set_list)) (pss_one (ps_ret (pv 2))))) pss_nil)
      (pss_cons (ps_asg (pe_op op_mod (pe_callTy call_int1 (by rfl) B.int (by decide +kernel) (pa_cons (pe_op op_add (pe_op op_mul (pe_ix ix_list (pv 0) pe_int (fun _ _ => rfl)) pe_int) pe_int) pa_nil)) pe_int) (pg_sub (pv 0) pe_int set_list))
      (pss_one (ps_ret (pe_op op_modN (pe_op op_fdiv (pe_op op_mod (pe_callTy call_int1 (by rfl) B.int (by decide +kernel) (pa_cons (pe_op op_mul (pe_ix ix_list (pv 0) pe_int (fun _ _ => rfl)) (pe_ix ix_list (pv 0) pe_int (fun _ _ => rfl))) pa_nil)) pe_int) pe_int) (pv 1))))), ?_⟩
    have S0 := SqL.of (K := K) ha
    have x0 : atI [V.int g, V.int q] 0 = some (.int g) := rfl
    have x1 : atI [V.int g, V.int q] 1 = some (.int q) := rfl
    have mnz : m ≠ 0 := by omega
    refine ⟨_, rfl, a, _, 0, _, rfl, rfl, S0, x0, _, _, rfl, rfl, _, rfl, ite2 (fun c => ?_) (fun _ => ?_)⟩
    · refine ⟨_, rfl, a, _, 0, _, rfl, rfl, S0, x0, .inl ⟨_, rfl, _, rfl, _, _, rfl, rfl, mnz, ?_⟩⟩
      refine ⟨_, rfl, a, _, 0, _, rfl, rfl, S0, x0, _, rfl, _, _, rfl, rfl, ⟨mnz, by omega⟩, _, rfl, a, _, 0, 0, rfl, rfl, ha, rfl, ?_⟩
      refine ⟨_, rfl, kk _ _ (Int.fmod_nonneg_of_pos _ (by omega)) (Int.fmod_lt_of_pos _ (by omega)) ⟨g.fdiv m, q, upd_same, Int.fdiv_nonneg hg (by omega), hq0, hq1⟩ But.upd⟩
    · refine ⟨_, rfl, a, _, 1, _, rfl, rfl, S0, x1, _, _, rfl, rfl, .inr ⟨by decide, by decide⟩, _, _, rfl, rfl, .inl ⟨_, rfl, _, _, rfl, rfl, (by show (0 : Int) < 2147483647; decide), ?_⟩⟩
      have z0 : 0 ≤ (q * 39373 + 7) % 2147483647 := Int.emod_nonneg _ (by decide)
      have z1 : (q * 39373 + 7) % 2147483647 < 2147483647 := Int.emod_lt_of_pos _ (by decide)
      refine ⟨_, rfl, a, _, 1, 1, rfl, rfl, ha, rfl, ?_⟩
      have h2 : upd H a (.lst [V.int g, V.int ((q * 39373 + 7) % 2147483647)]) a = some (.lst [V.int g, V.int ((q * 39373 + 7) % 2147483647)]) := upd_same
      have S2 := SqL.of (K := K) h2
      have y1 : atI [V.int g, V.int ((q * 39373 + 7) % 2147483647)] 1 = some (.int ((q * 39373 + 7) % 2147483647)) := rfl
      refine ⟨_, rfl, a, _, 1, _, rfl, rfl, S2, y1, _, rfl, a, _, 1, _, rfl, rfl, S2, y1, _, _, rfl, rfl, .inl ⟨by omega, by omega⟩, .inl ⟨_, rfl, _, _, rfl, rfl, (by show (0 : Int) < 2147483629; decide), _, _, rfl, rfl, ⟨by decide, by decide⟩, _, rfl, _, _, rfl, rfl, mnz, ?_⟩⟩
      exact kk _ _ (Int.fmod_nonneg_of_pos _ (by omega)) (Int.fmod_lt_of_pos _ (by omega)) ⟨g, _, h2, hg, z0, z1⟩ But.upd
end

section
variable {P : Program} {w : World} {K : PySem.W.Frag} {mg : Str → Option Value} {base : Heap}
theorem ok_people {f fD : Addr} {fd fdD : FuncData} (F : Fun K "_law_people" "_law_people" sPeople f fd) (FD : Fun K "_law_draw" "_law_draw" sDraw fD fdD) (bD : Binds K fdD ["_law_pool", "_law_many"] []) (gD : mg "_law_draw" = some (.ref fD)) (B : Bt mg) :
    FnOk P w K mg base CX0 2 f fd ["_law_pool", "_law_many"] spPeople := by
  have GD : FnOk P w K mg base CX0 1 fD fdD ["_law_pool", "_law_many"] spDraw := ok_draw FD B
  refine F.ok scPeople (fun vs H Q E h => ?_) (fun cdv A outer s H vs Q E hr h => ?_)
  · obtain ⟨a, m, rfl, _⟩ := h
    rfl
  · obtain ⟨a, m, rfl, hP, hm, q⟩ := h
    refine ⟨_, pss_cons (ps_par (i := 2) (j := 3) (by rfl) scPeople.nd rfl rfl (by decide) rfl rfl (pa_cons (pe_lst (pa_cons pe_str (pa_cons pe_str (pa_cons pe_str (pa_cons pe_str (pa_cons pe_str (pa_cons pe_str (pa_cons pe_str (pa_cons pe_str pa_nil)))))))))
        (pa_cons (pe_lst pa_nil) pa_nil)) (by rfl))
      (pss_cons (ps_for PassesOwn.never rfl (pi_range1 (by rfl) B.range (pa_cons (pv 1) pa_nil)) (pg_name (i := 4) scPeople.nd rfl (.inl rfl))
        (pss_one (ps_expr (pe_bm PySem.F.plainAttrs_list PySem.F.slot_list_append PySem.F.type_list_append mt_append (pv 3) (pa_cons
          (pe_bm PySem.F.plainAttrs_list PySem.F.slot_list_pop PySem.F.type_list_pop mt_popAt (pv 2) (pa_cons
            (pe_call GD hr (by rfl) gD FD.kp bD .nil pass0 (pa_cons (pv 0) (pa_cons (pe_callB call_len_seq (by rfl) B.len PySem.boot_len (pa_cons (pv 2) pa_nil)) pa_nil))) pa_nil)) pa_nil)))))
      (pss_one (ps_ret (pv 3)))), ?_⟩
    refine ⟨(by show 8 ≤ sizeLine; decide), fun x nx => ?_⟩
    generalize e1 : upd H x _ = H1
    have s1 : Same H H1 := e1 ▸ same_new nx
    have hx : H1 x = some (.lst (names8.map V.str)) := e1 ▸ upd_same
    refine ⟨Nat.zero_le _, fun y ny => ?_⟩
    generalize e2 : upd H1 y _ = H2
    have s2 : Same H1 H2 := e2 ▸ same_new ny
    have hy : H2 y = some (.lst []) := e2 ▸ upd_same
    refine ⟨_, _, rfl, ?_⟩
    have hx2 := s2 _ _ hx
    have nxy : x ≠ y := fun e => by
      rw [e, ny] at hx
      cases hx
    have hP2 : Pool H2 a := by
      obtain ⟨g, r, ha, hb⟩ := hP
      exact ⟨g, r, s2 _ _ (s1 _ _ ha), hb⟩
    have nax : a ≠ x := fun e => by
      obtain ⟨g, r, ha, hb⟩ := hP
      rw [e, nx] at ha
      cases ha
    have nay : a ≠ y := fun e => by
      obtain ⟨g, r, ha, hb⟩ := hP
      have := s1 _ _ ha
      rw [e, ny] at this
      cases this
    refine ⟨_, rfl, m, rfl, by omega, by omega, for_range (lo := 0) (n := (m : Int).toNat) (fun i σ H' => ∃ (v : Option V) (menu found : List Str), σ = [some (.ref a), some (.int m), some (.ref x), some (.ref y), v] ∧ Pool H' a ∧ But a H H' ∧
      H' x = some (.lst (menu.map V.str)) ∧ H' y = some (.lst (found.map V.str)) ∧ found.length = i ∧ (found ++ menu).Perm names8)
      ⟨none, names8, [], rfl, hP2, But.of_same (s1.trans s2), hx2, hy, rfl, .refl _⟩ ?_ ?_⟩
    · rintro i σ H3 hi ⟨v, menu, found, rfl, hP3, hB, hx3, hy3, hl, hp⟩
      have len8 : found.length + menu.length = 8 := by
        have := hp.length_eq
        rw [List.length_append] at this
        exact this
      refine ⟨_, rfl, .inl ⟨rfl, _, SqL.of hy3⟩, _, rfl, .inl ⟨rfl, _, SqL.of hx3⟩, _, rfl, _, rfl, x, _, rfl, .inl (SqL.of hx3), ?_⟩
      refine ⟨a, _, rfl, hP3, by rw [List.length_map]; omega, by rw [List.length_map]; omega, fun r H4 r0 r1 hP4 hB4 => ?_⟩
      have hx4 := hB4 _ _ (Ne.symm nax) hx3
      have hy4 := hB4 _ _ (Ne.symm nay) hy3
      rw [List.length_map] at r1
      have hk : r.toNat < menu.length := by omega
      have hk' : menu[r.toNat]? = some menu[r.toNat] := List.getElem?_eq_getElem hk
      refine ⟨x, _, r, r.toNat, .str menu[r.toNat], rfl, rfl, hx4, by omega, by omega, seqIndex_of r0 (by rw [List.length_map]; omega), by rw [List.getElem?_map, hk']; rfl, ?_⟩
      have hy5 : upd H4 x (.lst ((menu.map V.str).eraseIdx r.toNat)) y = some (.lst (found.map V.str)) := by
        rw [upd_ne (Ne.symm nxy)]
        exact hy4
      refine ⟨y, _, _, rfl, rfl, hy5, by rw [List.length_map]; exact small1000 (by omega), ?_⟩
      refine ⟨_, menu.eraseIdx r.toNat, found ++ [menu[r.toNat]], rfl, ?_, ?_, ?_, ?_, ?_, ?_⟩
      · obtain ⟨g, z, ha, hb⟩ := hP4
        exact ⟨g, z, by rw [upd_ne nay, upd_ne nax]; exact ha, hb⟩
      · intro b o hb e
        have nbx : b ≠ x := fun z => by
          rw [z, nx] at e
          cases e
        have nby : b ≠ y := fun z => by
          have := s1 _ _ e
          rw [z, ny] at this
          cases this
        rw [upd_ne nby, upd_ne nbx]
        exact hB4 b o hb (hB b o hb e)
      · rw [upd_ne nxy, upd_same, eraseIdx_map]
      · rw [upd_same, List.map_append]
        rfl
      · rw [List.length_append, hl]
        rfl
      · rw [List.append_assoc]
        exact ((perm_pop hk').append_left found).trans hp
    · rintro σ H3 ⟨v, menu, found, rfl, hP3, hB, hx3, hy3, hl, hp⟩
      have nd : (found ++ menu).Nodup := hp.nodup_iff.mpr names8_nd
      exact ⟨_, rfl, q H3 y found hP3 hB (s1.free ny) hy3 (by omega) (List.nodup_append.mp nd).1 fun z hz => hp.mem_iff.mp (List.mem_append_left _ hz)⟩
end

/-! ### the program: integers, words, people -/
structure Tx (mg : Str → Option Value) : Prop where
  isi : mg "isinstance" = none
  str : mg "str" = none
  bool : mg "bool" = none
  list : mg "list" = none
  tuple : mg "tuple" = none
  set : mg "set" = none
  all : mg "all" = none
  letters : ∃ t, mg "LETTERS" = some (.str letters t)
  longest : ∃ t, mg "LONGEST" = some (.int 8 t)
  mostP : ∃ t, mg "MOST_PEOPLE" = some (.int 8 t)
  greatest : ∃ t, mg "GREATEST_MARK" = some (.int 10 t)
section
variable {P : Program} {w : World} {K : PySem.W.Frag} {mg : Str → Option Value} {base : Heap}
theorem ok_isInteger {f : Addr} {fd : FuncData} (F : Fun K "is_integer" "is_integer" sIsInteger f fd) (B : Bt mg) (T : Tx mg) : FnOk P w K mg base CX0 1 f fd ["value"] (spIsInteger K) := by
  refine F.ok scIsInteger (fun vs H Q E h => ?_) (fun cdv A outer s H vs Q E hr h => ?_)
  · obtain ⟨v, T, rfl, _⟩ := h
    rfl
  · obtain ⟨v, N, rfl, ⟨ty, hk⟩, q⟩ := h
    refine ⟨_, pss_one (ps_ret (pe_and (pe_callB call_isi (by rfl) T.isi (by decide +kernel) (pa_cons (pv 0) (pa_cons (pe_bltn (v := .ty "int") (by rfl) B.int (by decide +kernel) rfl) pa_nil)))
      (pe_one (pe_not (pe_callB call_isi (by rfl) T.isi (by decide +kernel) (pa_cons (pv 0) (pa_cons (pe_bltn (v := .ty "bool") (by rfl) T.bool (by decide +kernel) rfl) pa_nil))))))), ?_⟩
    refine ⟨_, rfl, v, .ty "int", _, _, _, rfl, .ty "int", ty, kit_ty (kit_int hk), _, rfl, ite2 (fun c => ?_) (fun c => ?_)⟩
    · refine ⟨_, rfl, v, .ty "bool", _, _, _, rfl, .ty "bool", ty, kit_ty (kit_bool hk), _, rfl, ?_⟩
      have e : (!decide (N = "bool")) = decide (N = "int") := by
        by_cases h1 : N = "bool"
        · subst h1
          rfl
        · rw [decide_eq_false h1, Bool.or_false] at c
          rw [decide_eq_false h1, c]
          rfl
      rw [e]
      exact q
    · have e : decide (N = "int") = false := by
        cases h1 : decide (N = "int") with
        | false => rfl
        | true =>
          rw [h1] at c
          exact absurd rfl c
      rw [e] at q
      exact q
theorem ok_within {f fI : Addr} {fd fdI : FuncData} (F : Fun K "is_integer_within" "is_integer_within" sIsIntegerWithin f fd) (FI : Fun K "is_integer" "is_integer" sIsInteger fI fdI) (bI : Binds K fdI ["value"] []) (gI : mg "is_integer" = some (.ref fI)) (B : Bt mg) (T : Tx mg) :
    FnOk P w K mg base CX0 2 f fd ["value", "least", "most"] (spWithin K) := by
  have GI : FnOk P w K mg base CX0 1 fI fdI ["value"] (spIsInteger K) := ok_isInteger FI B T
  refine F.ok scIsIntegerWithin (fun vs H Q E h => ?_) (fun cdv A outer s H vs Q E hr h => ?_)
  · obtain ⟨v, lo, hi, rfl, _⟩ := h
    rfl
  · obtain ⟨v, lo, hi, rfl, ⟨N, ty⟩, q⟩ := h
    refine ⟨_, pss_one (ps_ret (pe_and (pe_call GI hr (by rfl) gI FI.kp bI .nil pass0 (pa_cons (pv 0) pa_nil)) (pe_one (pe_chain op_le op_le (pv 1) (pv 0) (pv 2))))), ?_⟩
    refine ⟨_, rfl, v, N, rfl, ty, _, rfl, ite2 (fun c => ?_) (fun c => ?_)⟩
    · have e : N = "int" := of_decide_eq_true c
      subst e
      obtain ⟨i, rfl⟩ := ty_int ty.1
      refine ⟨_, rfl, _, rfl, _, _, rfl, rfl, _, rfl, ite2 (fun c1 => ?_) (fun c1 => ?_)⟩
      · refine ⟨_, rfl, _, _, rfl, rfl, ?_⟩
        have e : markB lo hi (.int i) = decide (i ≤ hi) := by
          show (decide (lo ≤ i) && decide (i ≤ hi)) = _
          rw [show decide (lo ≤ i) = true from c1, Bool.true_and]
        rw [e] at q
        exact q
      · have e : markB lo hi (.int i) = false := by
          show (decide (lo ≤ i) && decide (i ≤ hi)) = _
          rw [show decide (lo ≤ i) = false from Bool.eq_false_iff.mpr c1, Bool.false_and]
        rw [e] at q
        exact q
    · have e : markB lo hi v = false := by
        cases v with
        | int i => exact absurd (decide_eq_true (int_ty ty.1)) c
        | _ => rfl
      rw [e] at q
      exact q
theorem ok_isWord {f : Addr} {fd : FuncData} (F : Fun K "is_word" "is_word" sIsWord f fd) (B : Bt mg) (T : Tx mg) : FnOk P w K mg base CX0 1 f fd ["value"] (spIsWord K) := by
  obtain ⟨t1, g1⟩ := T.letters
  obtain ⟨t2, g2⟩ := T.longest
  refine F.ok scIsWord (fun vs H Q E h => ?_) (fun cdv A outer s H vs Q E hr h => ?_)
  · obtain ⟨v, rfl, _⟩ := h
    rfl
  · obtain ⟨v, rfl, ⟨⟨N, ty, hk⟩, hz⟩, q⟩ := h
    refine ⟨_, pss_cons (ps_if (PW.pt (pw_or (pt_not (pt_val (pe_callB call_isi (by rfl) T.isi (by decide +kernel) (pa_cons (pv 0) (pa_cons (pe_bltn (v := .ty "str") (by rfl) T.str (by decide +kernel) rfl) pa_nil)))))
        (pw_or1 (pt_not (pt_chain op_le op_le pe_int (pe_callB call_len (by rfl) B.len PySem.boot_len (pa_cons (pv 0) pa_nil)) (pe_glob (v := .int 8) (by rfl) g2 ⟨_, rfl⟩)))))) (pss_one (ps_ret pe_bl)) pss_nil)
      (pss_one (ps_ret (pe_callB (cr_all rfl) (by rfl) T.all (by decide +kernel) (pa_cons (pe_lc (own := [("sign", 1)]) (g := gName 1) (by rfl) scIsWord.nd (pi_str (pv 0)) (blkOk_by (own := [("sign", 1)]) (N := ["value", "sign"]) (sc := defScope sIsWord) (by decide +kernel))
        (fun _ _ _ _ _ => pg_name (i := 1) scIsWord.nd rfl (Or.inl rfl)) (fun _ _ _ _ _ => pts_nil) (fun _ _ _ _ _ => pe_cmpR op_in_sign (pv 1) (pe_glob (v := .str letters) (by rfl) g1 ⟨_, rfl⟩) (by rfl))) pa_nil)))), ?_⟩
    refine ⟨_, rfl, v, .ty "str", _, _, _, rfl, .ty "str", ty, kit_ty (kit_str hk), _, rfl, ?_⟩
    by_cases hs : N = "str"
    · subst hs
      obtain ⟨z, rfl⟩ := ty_str ty
      have hl := hz z rfl
      refine iteF ?_
      refine ⟨_, rfl, _, z.length, rfl, ⟨Nat.le_trans hl (by decide), rfl⟩, _, _, rfl, rfl, _, rfl, ite2 (fun c1 => ?_) (fun c1 => ?_)⟩
      · have h1 : 1 ≤ z.length := by
          have := of_decide_eq_true c1
          omega
        refine ⟨_, _, rfl, rfl, _, rfl, ?_⟩
        by_cases h2 : z.length ≤ 8
        · have h2' : decide (((z.length : Nat) : Int) ≤ 8) = true := decide_eq_true (by omega)
          rw [h2']
          refine iteF ?_
          refine ⟨_, rfl, z, rfl, fun D nD => ?_⟩
          refine lc_map (ys := (z.cps.toList.map fun c => decide (c ∈ letters.cps.toList)).map V.bl) walk_kmSigns (by unfold kmSigns; simp) ?_ nD (fun _ _ => trivial) (fun _ => rfl) (fun i x y H1 Q1 hx hy s1 k => ?_) (fun H1 s1 hD => ?_)
          · have : (kmSigns z).length = z.length := by
              unfold kmSigns
              rw [List.length_map, Array.length_toList]
              rfl
            rw [this]
            exact small1000 hl
          · unfold kmSigns at hx
            rw [List.getElem?_map] at hx hy
            rw [List.getElem?_map] at hy
            cases hc : z.cps.toList[i]? with
            | none =>
              rw [hc] at hx
              cases hx
            | some c =>
              rw [hc] at hx hy
              obtain rfl := Option.some.inj hx
              obtain rfl := Option.some.inj hy
              exact ⟨_, rfl, c, letters, rfl, rfl, k H1 (Same.refl H1)⟩
          · refine ⟨D, _, rfl, SqL.of hD, ?_⟩
            have e : isW (.str z) = (z.cps.toList.map fun c => decide (c ∈ letters.cps.toList)).all id := by
              show ((decide (1 ≤ z.length) && decide (z.length ≤ 8)) && _) = _
              rw [decide_eq_true h1, decide_eq_true h2, Bool.true_and, Bool.true_and, List.all_map]
              rfl
            rw [← e]
            exact q H1 s1
        · have h2' : decide (((z.length : Nat) : Int) ≤ 8) = false := decide_eq_false (by omega)
          rw [h2']
          refine iteT ?_
          have e : isW (.str z) = false := by
            show ((decide (1 ≤ z.length) && decide (z.length ≤ 8)) && _) = false
            rw [decide_eq_false h2, Bool.and_false, Bool.false_and]
          rw [e] at q
          exact q H (Same.refl H)
      · have h1 : ¬ 1 ≤ z.length := fun h => c1 (decide_eq_true (by omega))
        refine ⟨_, rfl, iteT ?_⟩
        have e : isW (.str z) = false := by
          show ((decide (1 ≤ z.length) && decide (z.length ≤ 8)) && _) = false
          rw [decide_eq_false h1, Bool.false_and, Bool.false_and]
        rw [e] at q
        exact q H (Same.refl H)
    · have e : decide (N = "str") = false := decide_eq_false hs
      rw [e]
      refine iteT (iteT ?_)
      have e2 : isW v = false := by
        cases v with
        | str z => exact absurd (str_ty ty) hs
        | _ => rfl
      rw [e2] at q
      exact q H (Same.refl H)
end

section
variable {P : Program} {w : World} {K : PySem.W.Frag} {mg : Str → Option Value} {base : Heap}
/-- the law of a list's or a tuple's items, given how it is walked and measured -/
theorem ok_arePeople {f fW : Addr} {fd fdW : FuncData} (F : Fun K "are_people" "are_people" sArePeople f fd) (FW : Fun K "is_word" "is_word" sIsWord fW fdW) (bW : Binds K fdW ["value"] []) (gW : mg "is_word" = some (.ref fW)) (B : Bt mg) (T : Tx mg) :
    FnOk P w K mg base CX0 2 f fd ["value"] (spArePeople K) := by
  have GW : FnOk P w K mg base CX0 1 fW fdW ["value"] (spIsWord K) := ok_isWord FW B T
  obtain ⟨t1, g1⟩ := T.mostP
  refine F.ok scArePeople (fun vs H Q E h => ?_) (fun cdv A outer s H vs Q E hr h => ?_)
  · obtain ⟨v, b, xs, rfl, _⟩ := h
    rfl
  · obtain ⟨v, b, xs, rfl, ha, q⟩ := h
    cases ha with
    | @no _ N t h1 h2 =>
      refine ⟨_, pss_cons (ps_if (PW.pt (pw_or (pt_not (pt_val (pe_callB call_isiT (by rfl) T.isi (by decide +kernel) (pa_cons (pv 0) (pa_cons (pe_tup (pa_cons (pe_bltn (v := .ty "list") (by rfl) T.list (by decide +kernel) rfl) (pa_cons (pe_bltn (v := .ty "tuple") (by rfl) T.tuple (by decide +kernel) rfl) pa_nil))) pa_nil)))))
          (pw_or1 (pt_not (pt_chain op_le op_le pe_int (pe_callB call_len_seq (by rfl) B.len PySem.boot_len (pa_cons (pv 0) pa_nil)) (pe_glob (v := .int 8) (by rfl) g1 ⟨_, rfl⟩)))))) (pss_one (ps_ret pe_bl)) pss_nil)
        (pss_one ps_never), ?_⟩
      refine ⟨_, rfl, (by show 2 ≤ sizeLine; decide), fun p np => ?_⟩
      refine ⟨v, p, _, _, _, _, rfl, upd_same, .cons (.ty "list") (.cons (.ty "tuple") .nil), TyX.same (same_new np) t.1, kit_listTuple t.2, _, rfl, ?_⟩
      rw [decide_eq_false h1, decide_eq_false h2]
      exact iteT (iteT (q _ (same_new np)))
    | @lst a _ e hx hl =>
      refine ⟨_, pss_cons (ps_if (PW.pt (pw_or (pt_not (pt_val (pe_callB call_isiT (by rfl) T.isi (by decide +kernel) (pa_cons (pv 0) (pa_cons (pe_tup (pa_cons (pe_bltn (v := .ty "list") (by rfl) T.list (by decide +kernel) rfl) (pa_cons (pe_bltn (v := .ty "tuple") (by rfl) T.tuple (by decide +kernel) rfl) pa_nil))) pa_nil)))))
          (pw_or1 (pt_not (pt_chain op_le op_le pe_int (pe_callB call_len_seq (by rfl) B.len PySem.boot_len (pa_cons (pv 0) pa_nil)) (pe_glob (v := .int 8) (by rfl) g1 ⟨_, rfl⟩)))))) (pss_one (ps_ret pe_bl)) pss_nil)
        (pss_one (ps_ret (pe_and (pe_callB (cr_all rfl) (by rfl) T.all (by decide +kernel) (pa_cons (pe_lc (own := [("person", 1)]) (g := gName 1) (by rfl) scArePeople.nd (pi_list (pv 0)) (blkOk_by (own := [("person", 1)]) (N := ["value", "person"]) (sc := defScope sArePeople) (by decide +kernel))
            (fun _ _ _ _ _ => pg_name (i := 1) scArePeople.nd rfl (Or.inl rfl)) (fun _ _ _ _ _ => pts_nil) (fun _ _ _ _ _ => pe_call GW (by exact hr) (by rfl) gW FW.kp bW .nil pass0 (pa_cons (pv 1) pa_nil))) pa_nil))
          (pe_one (pe_cmpR op_eq (pe_callB cr_lenK (by rfl) B.len PySem.boot_len (pa_cons (pe_callTy (cr_setK rfl) (by rfl) T.set (by decide +kernel) (pa_cons (pv 0) pa_nil)) pa_nil)) (pe_callB call_len_seq (by rfl) B.len PySem.boot_len (pa_cons (pv 0) pa_nil)) (nomark _)))))), ?_⟩
      refine ⟨_, rfl, (by show 2 ≤ sizeLine; decide), fun p np => ?_⟩
      refine ⟨_, p, _, _, _, _, rfl, upd_same, .cons (.ty "list") (.cons (.ty "tuple") .nil), .base (.lst (same_new np _ _ e)), kit_listTuple (by decide), _, rfl, ?_⟩
      refine iteF ?_
      generalize e1 : upd H p _ = H1
      have s1 : Same H H1 := e1 ▸ same_new np
      have ha1 := s1 _ _ e
      refine ⟨_, rfl, a, xs, rfl, .inl (SqL.of ha1), _, _, rfl, rfl, _, rfl, ite2 (fun c1 => ?_) (fun c1 => ?_)⟩
      · have h1 : 1 ≤ xs.length := by
          have := of_decide_eq_true c1
          omega
        refine ⟨_, _, rfl, rfl, _, rfl, ?_⟩
        by_cases h2 : xs.length ≤ 8
        · rw [show decide (((xs.length : Nat) : Int) ≤ 8) = true from decide_eq_true (by omega)]
          refine iteF ?_
          refine ⟨_, rfl, a, rfl, ⟨xs, SqL.of ha1⟩, fun D nD => ?_⟩
          refine lc_map (ys := (xs.map isW).map V.bl) (w := walk_list (K := K) (a := a) (xs := xs)) (by simp) (small1000 hl) nD (fun H2 s2 => SqL.of (s2 _ _ ha1)) (fun _ => rfl) (fun i x y H2 Q2 hxi hyi s2 k => ?_) (fun H2 s2 hD => ?_)
          · rw [List.getElem?_map, List.getElem?_map, hxi] at hyi
            obtain rfl := Option.some.inj hyi
            exact ⟨_, rfl, x, rfl, (hx x (List.mem_of_getElem? hxi)).same (s1.trans s2), fun H3 s3 => k H3 s3⟩
          · refine ⟨D, xs.map isW, rfl, SqL.of hD, _, rfl, ite2 (fun c2 => ?_) (fun c2 => ?_)⟩
            · have c3 : xs.all isW = true := by
                rw [List.all_map] at c2
                exact c2
              obtain ⟨zs, rfl⟩ := strs_of_isW c3
              refine ⟨_, rfl, a, zs.map Sum.inr, rfl, .inl (by rw [← keys_of_strs]; exact SqL.of (s2 _ _ ha1)), (by rw [List.length_map] at hl ⊢; exact hl), fun r nr => ?_⟩
              refine ⟨r, _, _, rfl, upd_same, ?_, _, rfl, a, _, rfl, .inl (SqL.of (same_new nr _ _ (s2 _ _ ha1))), rfl, ?_⟩
              · have := Km.uniq_le (zs.map (Sum.inr : Str → Key))
                rw [List.length_map] at this hl
                omega
              · rw [uniq_strs]
                have e2 : peopleB (zs.map V.str) = decide (zs.map V.str).Nodup := by
                  show ((decide (1 ≤ (zs.map V.str).length) && decide ((zs.map V.str).length ≤ 8)) && ((zs.map V.str).all isW && _)) = _
                  rw [decide_eq_true h1, decide_eq_true h2, c3, Bool.true_and, Bool.true_and, Bool.true_and]
                rw [← e2]
                exact q _ ((s1.trans s2).trans (same_new nr))
            · have e2 : peopleB xs = false := by
                show ((decide (1 ≤ xs.length) && decide (xs.length ≤ 8)) && (xs.all isW && _)) = _
                have : xs.all isW = false := by
                  cases z : xs.all isW with
                  | false => rfl
                  | true =>
                    refine absurd ?_ c2
                    rw [List.all_map]
                    exact z
                rw [this, Bool.false_and, Bool.and_false]
              rw [e2] at q
              exact q H2 (s1.trans s2)
        · rw [show decide (((xs.length : Nat) : Int) ≤ 8) = false from decide_eq_false (by omega)]
          refine iteT ?_
          have e2 : peopleB xs = false := by
            show ((decide (1 ≤ xs.length) && decide (xs.length ≤ 8)) && _) = false
            rw [decide_eq_false h2, Bool.and_false, Bool.false_and]
          rw [e2] at q
          exact q H1 s1
      · have h1 : ¬ 1 ≤ xs.length := fun h => c1 (decide_eq_true (by omega))
        refine ⟨_, rfl, iteT ?_⟩
        have e2 : peopleB xs = false := by
          show ((decide (1 ≤ xs.length) && decide (xs.length ≤ 8)) && _) = false
          rw [decide_eq_false h1, Bool.false_and, Bool.false_and]
        rw [e2] at q
        exact q H1 s1
    | @tup a _ e hx hl =>
      refine ⟨_, pss_cons (ps_if (PW.pt (pw_or (pt_not (pt_val (pe_callB call_isiT (by rfl) T.isi (by decide +kernel) (pa_cons (pv 0) (pa_cons (pe_tup (pa_cons (pe_bltn (v := .ty "list") (by rfl) T.list (by decide +kernel) rfl) (pa_cons (pe_bltn (v := .ty "tuple") (by rfl) T.tuple (by decide +kernel) rfl) pa_nil))) pa_nil)))))
          (pw_or1 (pt_not (pt_chain op_le op_le pe_int (pe_callB call_len_seq (by rfl) B.len PySem.boot_len (pa_cons (pv 0) pa_nil)) (pe_glob (v := .int 8) (by rfl) g1 ⟨_, rfl⟩)))))) (pss_one (ps_ret pe_bl)) pss_nil)
        (pss_one (ps_ret (pe_and (pe_callB (cr_all rfl) (by rfl) T.all (by decide +kernel) (pa_cons (pe_lc (own := [("person", 1)]) (g := gName 1) (by rfl) scArePeople.nd (pi_tup (pv 0)) (blkOk_by (own := [("person", 1)]) (N := ["value", "person"]) (sc := defScope sArePeople) (by decide +kernel))
            (fun _ _ _ _ _ => pg_name (i := 1) scArePeople.nd rfl (Or.inl rfl)) (fun _ _ _ _ _ => pts_nil) (fun _ _ _ _ _ => pe_call GW (by exact hr) (by rfl) gW FW.kp bW .nil pass0 (pa_cons (pv 1) pa_nil))) pa_nil))
          (pe_one (pe_cmpR op_eq (pe_callB cr_lenK (by rfl) B.len PySem.boot_len (pa_cons (pe_callTy (cr_setK rfl) (by rfl) T.set (by decide +kernel) (pa_cons (pv 0) pa_nil)) pa_nil)) (pe_callB call_len_seq (by rfl) B.len PySem.boot_len (pa_cons (pv 0) pa_nil)) (nomark _)))))), ?_⟩
      refine ⟨_, rfl, (by show 2 ≤ sizeLine; decide), fun p np => ?_⟩
      refine ⟨_, p, _, _, _, _, rfl, upd_same, .cons (.ty "list") (.cons (.ty "tuple") .nil), .base (.tup (same_new np _ _ e)), kit_listTuple (by decide), _, rfl, ?_⟩
      refine iteF ?_
      generalize e1 : upd H p _ = H1
      have s1 : Same H H1 := e1 ▸ same_new np
      have ha1 := s1 _ _ e
      refine ⟨_, rfl, a, xs, rfl, .inr (SqT.of ha1), _, _, rfl, rfl, _, rfl, ite2 (fun c1 => ?_) (fun c1 => ?_)⟩
      · have h1 : 1 ≤ xs.length := by
          have := of_decide_eq_true c1
          omega
        refine ⟨_, _, rfl, rfl, _, rfl, ?_⟩
        by_cases h2 : xs.length ≤ 8
        · rw [show decide (((xs.length : Nat) : Int) ≤ 8) = true from decide_eq_true (by omega)]
          refine iteF ?_
          refine ⟨_, rfl, a, rfl, ⟨xs, SqT.of ha1⟩, fun D nD => ?_⟩
          refine lc_map (ys := (xs.map isW).map V.bl) (w := walk_tup (K := K) (a := a) (xs := xs)) (by simp) (small1000 hl) nD (fun H2 s2 => SqT.of (s2 _ _ ha1)) (fun _ => rfl) (fun i x y H2 Q2 hxi hyi s2 k => ?_) (fun H2 s2 hD => ?_)
          · rw [List.getElem?_map, List.getElem?_map, hxi] at hyi
            obtain rfl := Option.some.inj hyi
            exact ⟨_, rfl, x, rfl, (hx x (List.mem_of_getElem? hxi)).same (s1.trans s2), fun H3 s3 => k H3 s3⟩
          · refine ⟨D, xs.map isW, rfl, SqL.of hD, _, rfl, ite2 (fun c2 => ?_) (fun c2 => ?_)⟩
            · have c3 : xs.all isW = true := by
                rw [List.all_map] at c2
                exact c2
              obtain ⟨zs, rfl⟩ := strs_of_isW c3
              refine ⟨_, rfl, a, zs.map Sum.inr, rfl, .inr (by rw [← keys_of_strs]; exact SqT.of (s2 _ _ ha1)), (by rw [List.length_map] at hl ⊢; exact hl), fun r nr => ?_⟩
              refine ⟨r, _, _, rfl, upd_same, ?_, _, rfl, a, _, rfl, .inr (SqT.of (same_new nr _ _ (s2 _ _ ha1))), rfl, ?_⟩
              · have := Km.uniq_le (zs.map (Sum.inr : Str → Key))
                rw [List.length_map] at this hl
                omega
              · rw [uniq_strs]
                have e2 : peopleB (zs.map V.str) = decide (zs.map V.str).Nodup := by
                  show ((decide (1 ≤ (zs.map V.str).length) && decide ((zs.map V.str).length ≤ 8)) && ((zs.map V.str).all isW && _)) = _
                  rw [decide_eq_true h1, decide_eq_true h2, c3, Bool.true_and, Bool.true_and, Bool.true_and]
                rw [← e2]
                exact q _ ((s1.trans s2).trans (same_new nr))
            · have e2 : peopleB xs = false := by
                show ((decide (1 ≤ xs.length) && decide (xs.length ≤ 8)) && (xs.all isW && _)) = _
                have : xs.all isW = false := by
                  cases z : xs.all isW with
                  | false => rfl
                  | true =>
                    refine absurd ?_ c2
                    rw [List.all_map]
                    exact z
                rw [this, Bool.false_and, Bool.and_false]
              rw [e2] at q
              exact q H2 (s1.trans s2)
        · rw [show decide (((xs.length : Nat) : Int) ≤ 8) = false from decide_eq_false (by omega)]
          refine iteT ?_
          have e2 : peopleB xs = false := by
            show ((decide (1 ≤ xs.length) && decide (xs.length ≤ 8)) && _) = false
            rw [decide_eq_false h2, Bool.and_false, Bool.false_and]
          rw [e2] at q
          exact q H1 s1
      · have h1 : ¬ 1 ≤ xs.length := fun h => c1 (decide_eq_true (by omega))
        refine ⟨_, rfl, iteT ?_⟩
        have e2 : peopleB xs = false := by
          show ((decide (1 ≤ xs.length) && decide (xs.length ≤ 8)) && _) = false
          rw [decide_eq_false h1, Bool.false_and, Bool.false_and]
        rw [e2] at q
        exact q H1 s1
end

section
variable {P : Program} {w : World} {K : PySem.W.Frag} {mg : Str → Option Value} {base : Heap}
theorem ok_badCrowdInit {f C : Addr} {fd : FuncData} (F : Fun K "__init__" "BadCrowd.__init__" sBadCrowdInit f fd) : FnOk P w K mg base CX0 1 f fd ["self", "part"] (spErrInit K C "part") := by
  refine F.ok scBadCrowdInit (fun vs H Q E h => ?_) (fun cdv A outer s H vs Q E hr h => ?_)
  · obtain ⟨a, v, rfl, _⟩ := h
    rfl
  · obtain ⟨a, v, rfl, ox, nf, ha, q⟩ := h
    refine ⟨_, pss_one (ps_ost (f := "part") (pv 0) (pv 1)), ?_⟩
    exact ⟨_, rfl, _, rfl, a, C, rfl, ox, nf, .inl ⟨ha, fun d nd ne => q d nd ne⟩⟩
theorem ok_crowdInit {f fA fN fB C CB : Addr} {fd fdA fdN fdB : FuncData} (F : Fun K "__init__" "Crowd.__init__" sCrowdInit f fd)
    (GA : FnOk P w K mg base CX0 2 fA fdA ["value"] (spArePeople K)) (kA : PySem.W.keepIn K (.ref fA) = true) (bA : Binds K fdA ["value"] []) (gA : mg "are_people" = some (.ref fA))
    (GN : FnOk P w K mg base CX0 2 fN fdN ["value", "least", "most"] (spWithin K)) (kN : PySem.W.keepIn K (.ref fN) = true) (bN : Binds K fdN ["value", "least", "most"] []) (gN : mg "is_integer_within" = some (.ref fN))
    (GB : FnOk P w K mg base CX0 1 fB fdB ["self", "part"] (spErrInit K CB "part")) (bB : Binds K fdB ["self", "part"] []) (iB : PySem.W.findIn K (.ref CB) "__init__" = some (some (.ref fB))) (tB : PySem.W.typeIn K (.ref fB) = some (.type "function"))
    (EB : Er K mg "BadCrowd" CB) (nf : PySem.W.findIn K (.ref CB) "part" = some none) (cl : Cls K C) (n1 : NoAttr K C "_people") (n2 : NoAttr K C "most") (T : Tx mg) :
    FnOk P w K mg base (L2.CX P w) 3 f fd ["self", "people", "most"] (spCrowdInit K C CB) := by
  obtain ⟨t1, g1⟩ := T.greatest
  refine F.okX scCrowdInit (fun vs H Q E h => ?_) (fun cdv A outer s H vs Q E hr h => ?_)
  · obtain ⟨x, dx, v, m, b, xs, rfl, _⟩ := h
    rfl
  · obtain ⟨x, dx, v, m, b, xs, rfl, hx, ha, ⟨N, tm⟩, qp, qm, q⟩ := h
    refine ⟨_, pss_cons (ps_if (pt_not (pt_val (pe_call GA hr (by rfl) gA kA bA .nil pass0 (pa_cons (pv 1) pa_nil)))) (pss_one (ps_raise rfl (takes_of rfl rfl rfl rfl) (pmk_oex EB.ox iB tB GB hr bB .nil pass0 (by rfl) EB.g (pa_cons pe_str pa_nil)))) pss_nil)
      (pss_cons (ps_if (pt_not (pt_val (pe_call GN hr (by rfl) gN kN bN .nil pass0 (pa_cons (pv 2) (pa_cons pe_int (pa_cons (pe_glob (v := .int 10) (by rfl) g1 ⟨_, rfl⟩) pa_nil)))))) (pss_one (ps_raise rfl (takes_of rfl rfl rfl rfl) (pmk_oex EB.ox iB tB GB hr bB .nil pass0 (by rfl) EB.g (pa_cons pe_str pa_nil)))) pss_nil)
      (pss_cons (ps_fld (pv 0) (pe_callTy call_list_of (by rfl) T.list (by decide +kernel) (pa_cons (pv 1) pa_nil)) rfl)
      (pss_one (ps_fld (pv 0) (pv 2) rfl)))), ?_⟩
    refine ⟨_, rfl, v, b, xs, rfl, ha, fun H1 s1 => ⟨b, rfl, ?_⟩⟩
    cases b with
    | false =>
      refine iteT ⟨(by show 1 ≤ 1000; decide), fun a na => ⟨a, _, rfl, EB.ox, nf, upd_same, fun d nd nda => ?_⟩⟩
      have nd1 : H1 d = none := by
        rw [upd_ne nda] at nd
        exact nd
      refine ⟨rfl, d, _, upd_same, by rw [upd_ne nda, upd_same], nd1, ?_⟩
      obtain ⟨r1, r2, r3⟩ := raised_mk (C := CB) (f := "part") (v := V.str "people") na nd1 nda
      exact qp rfl _ d ⟨s1.trans r1, s1.free r2, r3⟩
    | true =>
      refine iteF ?_
      refine ⟨_, rfl, m, 1, 10, rfl, ⟨N, tm.same s1⟩, _, rfl, ?_⟩
      cases hm : markB 1 10 m with
      | false =>
        refine iteT ⟨(by show 1 ≤ 1000; decide), fun a na => ⟨a, _, rfl, EB.ox, nf, upd_same, fun d nd nda => ?_⟩⟩
        have nd1 : H1 d = none := by
          rw [upd_ne nda] at nd
          exact nd
        refine ⟨rfl, d, _, upd_same, by rw [upd_ne nda, upd_same], nd1, ?_⟩
        obtain ⟨r1, r2, r3⟩ := raised_mk (C := CB) (f := "part") (v := V.str "most") na nd1 nda
        exact qm rfl hm _ d ⟨s1.trans r1, s1.free r2, r3⟩
      | true =>
        refine iteF ?_
        obtain ⟨i, rfl⟩ : ∃ i, m = .int i := by
          cases m with
          | int i => exact ⟨i, rfl⟩
          | _ => cases hm
        obtain ⟨l, rfl, hl⟩ := (ha.same s1).seq rfl
        refine ⟨_, rfl, l, xs, rfl, hl, fun p np => ?_⟩
        generalize e2 : upd H1 p _ = H2
        have s2 : Same H1 H2 := e2 ▸ same_new np
        have hp : H2 p = some (.lst xs) := e2 ▸ upd_same
        have hx2 := s2 _ _ (s1 _ _ hx)
        have npx : p ≠ x := ne_of hp hx2 (by intro z; cases z)
        refine ⟨_, rfl, x, C, dx, [], rfl, hx2, cl, n1, (by show 0 < 1000; decide), ?_⟩
        refine ⟨_, rfl, _, rfl, x, C, dx, _, rfl, upd_same, cl, n2, (by show 1 < 1000; decide), ?_⟩
        refine q rfl i rfl hm _ ?_ ⟨dx, p, by rw [upd_same, putF_new, crowd_put], by rw [upd_ne npx, upd_ne npx]; exact hp⟩
        exact ((But.of_same (s1.trans s2)).trans But.upd).trans But.upd
end

section
variable {P : Program} {w : World} {K : PySem.W.Frag} {mg : Str → Option Value} {base : Heap}
theorem ok_told {f fC C CB CM : Addr} {fd fdC : FuncData} (F : Fun K "_law_told" "_law_told" sTold f fd)
    (GC : FnOk P w K mg base (L2.CX P w) 3 fC fdC ["self", "people", "most"] (spCrowdInit K C CB)) (M : Mk K C fC) (gC : mg "Crowd" = some (.ref C)) (bC : Binds K fdC ["self", "people", "most"] [])
    (EB : Er K mg "BadCrowd" CB) (nf : PySem.W.findIn K (.ref CB) "part" = some none) (gM : mg "MarksError" = some (.ref CM)) (iM : PySem.W.kitOne K (.ref CB) (.ref CM) = some true) (T : Tx mg) :
    FnOk P w K mg base CX0 5 f fd ["_law_people_here", "_law_most"] (spTold K) := by
  refine F.ok scTold (fun vs H Q E h => ?_) (fun cdv A outer s H vs Q E hr h => ?_)
  · obtain ⟨v, m, b, xs, rfl, _⟩ := h
    rfl
  · obtain ⟨v, m, b, xs, rfl, ha, ⟨N, tm⟩, q1, q2⟩ := h
    refine ⟨_, pss_cons (ps_try_as (i := 2) (c := .ref CB) (tb := fun W => tDrop (tMakeS C (spCrowdInit K C CB) (WE W) (tCons (tVar 0) (tCons (tVar 1) tNil))))
        (ts := fun a cls d => tRet (tLst (tCons (tXf a cls d CB "part" (tVar 2)) (tCons (tCB (rIsX K CB a cls d) (tCons (tVar 2) (tCons (tC (.ref CM)) tNil))) tNil)))) (Wout := fun _ _ _ _ => False) rfl rfl scTold.nd rfl rfl ⟨rfl, by decide, Or.inl EB.g⟩ takes0
        (fun W pn xe tk _ => pss_one (ps_expr (by exact pe_makeS M GC hr rfl gC bC (fun σ => passAt tk σ) (by exact (pa_cons (pv 0) (pa_cons (pv 1) pa_nil))))))
        (fun a oe cls d pn hz hf => pss_one (ps_ret (by exact (pe_lst (pa_cons (pe_xf EB.xf nf hz hf (pv 2)) (pa_cons (pe_callB (call_isX EB.ec hz hf) (by rfl) T.isi (by decide +kernel) (pa_cons (pv 2) (pa_cons (pe_glob (v := .ref CM) (by rfl) gM rfl) pa_nil))) pa_nil)))))))
      (pss_one (ps_ret pe_str)), ?_⟩
    refine ⟨_, rfl, _, rfl, fun x dx nx ndx nex => ?_⟩
    have s1 : Same H (upd (upd H dx (.own x)) x (.ins C dx [])) := fun c o e => by
      rw [upd_ne (ne_of_none e nx), upd_ne (ne_of_none e ndx)]
      exact e
    have caught : ∀ (z : Str) (H' : Hp) (d : Addr), toldP b (markB 1 10 m) = some z → Raised (upd (upd H dx (.own x)) x (.ins C dx [])) H' d "part" (.str z) →
        ∀ a, H' a = none → tRet (tLst (tCons (tXf a (.ref CB) (some d) CB "part" (tVar 2)) (tCons (tCB (rIsX K CB a (.ref CB) (some d)) (tCons (tVar 2) (tCons (tC (.ref CM)) tNil))) tNil)))
          { nx := fun _ H' => Q .non H', rt := Q } [some v, some m, some (.ref a)] H' := fun z H' d hz hR a na => by
      obtain ⟨r1, r2, r3⟩ := hR
      refine ⟨_, rfl, rfl, rfl, d, _, _, rfl, r3, rfl, _, rfl, .ref CM, .ref CM, true, rfl, fun u hu => hu, rfl, fun dx e => ?_, iM, (by show 2 ≤ sizeLine; decide), fun p np => ?_⟩
      · obtain rfl := Option.some.inj e
        exact ⟨_, r3⟩
      · exact q1 _ p z hz ((s1.trans r1).trans (same_new np)) upd_same
    refine ⟨x, dx, v, m, b, xs, rfl, upd_same, ha.same s1, ⟨N, tm.same s1⟩, fun hb H' d hR => ?_, fun hb hm H' d hR => ?_, fun hb i hi hm H' hB hC => ?_⟩
    · refine ⟨true, EB.exm, fun _ a na => ?_, fun e => Bool.noConfusion e⟩
      exact caught "people" H' d (by unfold toldP; rw [if_pos hb]) hR a na
    · refine ⟨true, EB.exm, fun _ a na => ?_, fun e => Bool.noConfusion e⟩
      exact caught "most" H' d (by unfold toldP; rw [hb, hm]; rfl) hR a na
    · refine ⟨rfl, ?_⟩
      refine q2 (by unfold toldP; rw [hb, hm]; rfl) H' fun c o e => hB c o (ne_of_none e nx) (s1 _ _ e)
end

section
variable {P : Program} {w : World} {K : PySem.W.Frag} {mg : Str → Option Value} {base : Heap}
def spLaw (K : PySem.W.Frag) : Sp := fun vs H Q _ => ∃ (a : Addr) (ns : List Int), vs = [.ref a] ∧ SqL K H a (ns.map V.int) ∧ ns.length ≤ 63 ∧ ∀ H', Q (.bl true) H'
theorem ok_law {f fT fO fD fP : Addr} {fd fdT fdO fdD fdP : FuncData} (F : Fun K "law" "law" sLaw f fd)
    (GT : FnOk P w K mg base CX0 5 fT fdT ["_law_people_here", "_law_most"] (spTold K)) (FT : Fun K "_law_told" "_law_told" sTold fT fdT) (bT : Binds K fdT ["_law_people_here", "_law_most"] []) (gT : mg "_law_told" = some (.ref fT))
    (FO : Fun K "_law_opened" "_law_opened" sOpened fO fdO) (bO : Binds K fdO ["_law_script", "_law_k"] []) (gO : mg "_law_opened" = some (.ref fO))
    (FD : Fun K "_law_draw" "_law_draw" sDraw fD fdD) (bD : Binds K fdD ["_law_pool", "_law_many"] []) (gD : mg "_law_draw" = some (.ref fD))
    (FP : Fun K "_law_people" "_law_people" sPeople fP fdP) (bP : Binds K fdP ["_law_pool", "_law_many"] []) (gP : mg "_law_people" = some (.ref fP)) (B : Bt mg) (T : Tx mg) :
    FnOk P w K mg base CX0 6 f fd ["_law_script"] (spLaw K) := by
  have GO : FnOk P w K mg base CX0 1 fO fdO ["_law_script", "_law_k"] (spOpened K) := ok_opened FO B
  have GD : FnOk P w K mg base CX0 1 fD fdD ["_law_pool", "_law_many"] spDraw := ok_draw FD B
  have GP : FnOk P w K mg base CX0 2 fP fdP ["_law_pool", "_law_many"] spPeople := ok_people FP FD bD gD B
  refine F.ok scLaw (fun vs H Q E h => ?_) (fun cdv A outer s H vs Q E hr h => ?_)
  · obtain ⟨a, ns, rfl, _⟩ := h
    rfl
  · obtain ⟨a, ns, rfl, hS, hlen, q⟩ := h
    refine ⟨_, pss_cons (ps_if (pt_cmpR (op_neD hr.units) (pe_call GT hr (by rfl) gT FT.kp bT .nil pass0 (pa_cons (pe_lst (pa_cons pe_str (pa_cons pe_str (pa_cons pe_str (pa_cons pe_str (pa_cons pe_str (pa_cons pe_str (pa_cons pe_str (pa_cons pe_str pa_nil))))))))) (pa_cons pe_int pa_nil))) pe_str (nomark _)) (pss_one (ps_ret pe_bl)) pss_nil)
      (pss_cons (ps_for PassesOwn.never rfl (pi_range1 (by rfl) B.range (pa_cons (pe_callB (call_max2 rfl) (by rfl) B.max (by decide +kernel) (pa_cons pe_int (pa_cons (pe_callB (call_min2 rfl) (by rfl) B.min (by decide +kernel) (pa_cons (pe_callB call_len_seq (by rfl) B.len PySem.boot_len (pa_cons (pv 0) pa_nil)) (pa_cons pe_int pa_nil))) pa_nil))) pa_nil)) (pg_name (i := 1) scLaw.nd rfl (.inl rfl))
        (pss_cons (ps_set (i := 2) scLaw.nd rfl (.inl rfl) (pe_call GO (hr.mono (by decide)) (by rfl) gO FO.kp bO .nil pass0 (pa_cons (pv 0) (pa_cons (pv 1) pa_nil))))
        (pss_cons (ps_par (i := 3) (j := 4) (by rfl) scLaw.nd rfl rfl (by decide) rfl rfl (pa_cons (pe_call GP (hr.mono (by decide)) (by rfl) gP FP.kp bP .nil pass0 (pa_cons (pv 2) (pa_cons (pe_op op_add pe_int (pe_call GD (hr.mono (by decide)) (by rfl) gD FD.kp bD .nil pass0 (pa_cons (pv 2) (pa_cons pe_int pa_nil)))) pa_nil))) (pa_cons (pe_op op_add pe_int (pe_call GD (hr.mono (by decide)) (by rfl) gD FD.kp bD .nil pass0 (pa_cons (pv 2) (pa_cons pe_int pa_nil)))) pa_nil)) (by rfl))
        (pss_cons (ps_set (i := 5) scLaw.nd rfl (.inl rfl) (pe_lst (pa_cons pe_non (pa_cons pe_int (pa_cons pe_str (pa_cons (pe_lst pa_nil) (pa_cons (pe_tup pa_nil) (pa_cons pe_dnewK (pa_cons (pe_disp (pps_cons pe_str pe_int pps_nil) (by rfl) (by rfl) (fun z => by cases z) (by decide)) (pa_cons (pe_op op_cat (pv 3) (pe_slice sl_list (pv 3) po_none (po_some pe_int))) (pa_cons (pe_op op_cat (pv 3) (pe_lst (pa_cons pe_str pa_nil))) (pa_cons (pe_op op_cat (pv 3) (pe_lst (pa_cons pe_str pa_nil))) pa_nil))))))))))))
        (pss_cons (ps_set (i := 5) scLaw.nd rfl (.inl rfl) (pe_op op_cat (pv 5) (pe_lst (pa_cons (pe_op op_cat (pv 3) (pe_lst (pa_cons pe_str pa_nil))) (pa_cons (pe_op op_cat (pv 3) (pe_lst (pa_cons pe_non pa_nil))) (pa_cons (pe_op op_cat (pv 3) (pe_lst (pa_cons pe_int pa_nil))) (pa_cons (pe_op op_cat (pv 3) (pe_lst (pa_cons (pe_lst (pa_cons pe_str pa_nil)) pa_nil))) (pa_cons (pe_op op_cat (pv 3) (pe_lst (pa_cons pe_str pa_nil))) pa_nil))))))))
        (pss_cons (ps_set (i := 5) scLaw.nd rfl (.inl rfl) (pe_op op_cat (pv 5) (pe_lst (pa_cons (pe_op op_cat (pv 3) (pe_lst (pa_cons pe_str pa_nil))) (pa_cons (pe_lst (pa_cons pe_str (pa_cons pe_str (pa_cons pe_str (pa_cons pe_str (pa_cons pe_str (pa_cons pe_str (pa_cons pe_str (pa_cons pe_str (pa_cons pe_str pa_nil)))))))))) pa_nil)))))
        (pss_cons (ps_for PassesOwn.never rfl (pi_list (pv 5)) (pg_name (i := 6) scLaw.nd rfl (.inl rfl))
          (pss_one (ps_if (PW.pt (pw_or (pt_cmpR (op_neD hr.units) (pe_call GT hr (by rfl) gT FT.kp bT .nil pass0 (pa_cons (pv 6) (pa_cons (pv 4) pa_nil))) (pe_lst (pa_cons pe_str (pa_cons pe_bl pa_nil))) (nomark _)) (pw_or1 (pt_cmpR (op_neD hr.units) (pe_call GT hr (by rfl) gT FT.kp bT .nil pass0 (pa_cons (pv 6) (pa_cons pe_int pa_nil))) (pe_lst (pa_cons pe_str (pa_cons pe_bl pa_nil))) (nomark _))))) (pss_one (ps_ret pe_bl)) pss_nil)))
        (pss_cons (ps_for PassesOwn.never rfl (pi_list (pe_lst (pa_cons pe_non (pa_cons pe_int (pa_cons pe_int (pa_cons (pe_un un_neg pe_int) (pa_cons pe_bl (pa_cons pe_str (pa_cons (pe_lst (pa_cons pe_int pa_nil)) (pa_cons (pe_op op_pow pe_int pe_int) pa_nil)))))))))) (pg_name (i := 6) scLaw.nd rfl (.inl rfl))
          (pss_one (ps_if (PW.pt (pw_or (pt_cmpR (op_neD hr.units) (pe_call GT hr (by rfl) gT FT.kp bT .nil pass0 (pa_cons (pv 3) (pa_cons (pv 6) pa_nil))) (pe_lst (pa_cons pe_str (pa_cons pe_bl pa_nil))) (nomark _)) (pw_or1 (pt_cmpR (op_neD hr.units) (pe_call GT hr (by rfl) gT FT.kp bT .nil pass0 (pa_cons (pe_callTy call_tuple_of (by rfl) T.tuple (by decide +kernel) (pa_cons (pv 3) pa_nil)) (pa_cons (pv 6) pa_nil))) (pe_lst (pa_cons pe_str (pa_cons pe_bl pa_nil))) (nomark _))))) (pss_one (ps_ret pe_bl)) pss_nil)))
        (pss_one (ps_if (pt_cmpR (op_neD hr.units) (pe_call GT hr (by rfl) gT FT.kp bT .nil pass0 (pa_cons (pe_callTy call_tuple_of (by rfl) T.tuple (by decide +kernel) (pa_cons (pv 3) pa_nil)) (pa_cons (pv 4) pa_nil))) pe_str (nomark _)) (pss_one (ps_ret pe_bl)) pss_nil))))))))))
      (pss_one (ps_ret pe_bl))), ?_⟩
    -- the first look
    refine ⟨(by show 8 ≤ sizeLine; decide), fun p0 n0 => ?_⟩
    generalize e0 : upd H p0 _ = H0
    have s0 : Same H H0 := e0 ▸ same_new n0
    have h0 : H0 p0 = some (.lst [.str "abcdefgh", .str "a", .str "z", .str "bb", .str "cc", .str "dd", .str "ee", .str "ff"]) := e0 ▸ upd_same
    refine ⟨.ref p0, .int 10, true, _, rfl, .lst' h0 (by intro x hx; simp only [List.mem_cons, List.not_mem_nil, or_false] at hx; rcases hx with rfl | rfl | rfl | rfl | rfl | rfl | rfl | rfl <;> exact item_str (by decide +kernel)) (by decide) (by decide +kernel), ⟨"int", .base (.int _), by decide⟩, fun H1 p z hz => ?_, fun _ H1 s1 => ?_⟩
    · rw [show toldP true (markB 1 10 (.int 10)) = none by decide +kernel] at hz
      cases hz
    refine ⟨_, _, .str _, .str _, shaped_taken, shaped_taken, _, rfl, ?_⟩
    rw [eqv_taken]
    refine iteF ?_
    have sH1 : Same H H1 := s0.trans s1
    -- the cells
    have hR := rng_le ((ns.map V.int).length : Int) 4 (by decide)
    refine ⟨_, rfl, a, _, rfl, .inl (sH1.seq hS), _, _, rfl, _, _, rfl, _, rfl, by omega, by omega, ?_⟩
    refine for_range (lo := 0) (fun i σ H' => ∃ v1 v2 v3 v4 v5 v6, σ = [some (.ref a), v1, v2, v3, v4, v5, v6] ∧ Same H H') ⟨_, _, _, _, _, _, rfl, sH1⟩ ?_ ?_
    · rintro i σ H2 hi ⟨v1, v2, v3, v4, v5, v6, rfl, sH2⟩
      have hi4 : i ≤ 62 := by omega
      refine ⟨_, rfl, _, rfl, a, ns, i, by simp, sH2.seq hS, hi4, fun H3 pl s3 npl hP3 => ?_⟩
      have sH3 : Same H H3 := sH2.trans s3
      have npH : H pl = none := sH2.free npl
      -- the people
      refine ⟨_, rfl, _, rfl, pl, 7, rfl, hP3, by decide, by decide, fun r H4 r0 r1 hP4 b4 => ?_⟩
      refine ⟨_, _, rfl, rfl, pl, (1 + r).toNat, by rw [Int.toNat_of_nonneg (by omega)]; rfl, hP4, by omega, fun H5 l zs hP5 b5 n5 h5 lz nd mem => ?_⟩
      have dr : Drawn8 zs := ⟨nd, mem⟩
      have nlp : l ≠ pl := fun e => by
        obtain ⟨g, q, hg, _⟩ := hP4
        rw [e, hg] at n5
        cases n5
      refine ⟨_, rfl, pl, 10, rfl, hP5, by decide, by decide, fun r2 H6 r20 r21 hP6 b6 => ?_⟩
      refine ⟨_, _, rfl, rfl, _, _, rfl, ?_⟩
      have h6 := b6 _ _ nlp h5
      have sH6 : Same H H6 := ((((But.of_same sH3).trans b4).trans b5).trans b6).same npH
      have hz8 : zs.length ≤ 7 := by omega
      have hz1 : 1 ≤ zs.length := by omega
      have hlx : (zs.map V.str).length ≤ 8 := by
        rw [List.length_map]
        omega
      clear hP3 hP4 hP5 hP6 b4 b5 b6 n5 h5
      have l6 := h6
      refine ⟨Nat.zero_le _, fun p7 n7 => ?_⟩
      generalize e7 : upd H6 p7 _ = H7
      have s7 : Same H6 H7 := e7 ▸ same_new n7
      have h7 : H7 p7 = some (.lst []) := e7 ▸ upd_same
      have l7 := s7 _ _ l6
      refine ⟨Nat.zero_le _, fun p8 n8 => ?_⟩
      generalize e8 : upd H7 p8 _ = H8
      have s8 : Same H7 H8 := e8 ▸ same_new n8
      have h8 : H8 p8 = some (.tup []) := e8 ▸ upd_same
      have l8 := s8 _ _ l7
      refine  fun p9 n9 => ?_
      generalize e9 : upd H8 p9 _ = H9
      have s9 : Same H8 H9 := e9 ▸ same_new n9
      have h9 : H9 p9 = some (.dK []) := e9 ▸ upd_same
      have l9 := s9 _ _ l8
      refine fun p10 n10 => ⟨upd_same, [(.inr "ann", .int 1)], rfl, (by decide), ?_⟩
      rw [upd_upd]
      generalize e10 : upd H9 p10 _ = H10
      have s10 : Same H9 H10 := e10 ▸ same_new n10
      have h10 : H10 p10 = some (.dK (mergeK [] [(.inr "ann", .int 1)])) := e10 ▸ upd_same
      have l10 := s10 _ _ l9
      refine ⟨_, rfl, _, rfl, 1, rfl, l, zs.map V.str, rfl, SqL.of l10, ?_⟩
      refine  fun p11 n11 => ?_
      generalize e11 : upd H10 p11 _ = H11
      have s11 : Same H10 H11 := e11 ▸ same_new n11
      have h11 : H11 p11 = some (.lst (cutV (zs.map V.str) none (some 1))) := e11 ▸ upd_same
      have l11 := s11 _ _ l10
      have cut1 : cutV (zs.map V.str) none (some 1) = (zs.map V.str).take 1 := by
        unfold cutV
        rw [HT.sIx_none, show HT.sIx (zs.map V.str).length (zs.map V.str).length (some 1) = min 1 (zs.map V.str).length from HT.sIx_nat _ _ 1, List.drop_zero, Nat.sub_zero, Nat.min_eq_left (by rw [List.length_map]; omega)]
      rw [cut1] at h11
      refine ⟨l, p11, _, _, rfl, rfl, l11, h11, ?_, ?_⟩
      · rw [List.length_take, List.length_map]
        exact Nat.le_of_lt (small1000 (by omega))
      refine  fun p12 n12 => ?_
      generalize e12 : upd H11 p12 _ = H12
      have s12 : Same H11 H12 := e12 ▸ same_new n12
      have h12 : H12 p12 = some (.lst (zs.map V.str ++ (zs.map V.str).take 1)) := e12 ▸ upd_same
      have l12 := s12 _ _ l11
      have bad12 : BadP K H12 (.ref p12) := by
        obtain ⟨z0, zr, rfl⟩ : ∃ z0 zr, zs = z0 :: zr := by
          cases zs with
          | nil => exact absurd hz1 (by decide)
          | cons z0 zr => exact ⟨z0, zr, rfl⟩
        refine ⟨_, .lst' h12 (fun x hx => ?_) ?_ not_people_of_twice⟩
        · rcases List.mem_append.mp hx with hx | hx
          · exact dr.items x hx
          · exact dr.items x (List.mem_of_mem_take hx)
        · rw [List.length_append, List.length_take]
          omega
      refine rd_cat1 (.str "A") rfl l12 hlx (fun Q1 k => k _ (Same.refl _)) fun H13 p13 s13 h13 => ?_
      have l13 := s13 _ _ l12
      refine rd_cat1 (.str "abcdefghi") rfl l13 hlx (fun Q1 k => k _ (Same.refl _)) fun H14 p14 s14 h14 => ?_
      have l14 := s14 _ _ l13
      refine ⟨(by show 10 ≤ sizeLine; decide), fun p15 n15 => ?_⟩
      generalize e15 : upd H14 p15 _ = H15
      have s15 : Same H14 H15 := e15 ▸ same_new n15
      have h15 : H15 p15 = some (.lst [.non, .int 5, .str "ann", .ref p7, .ref p8, .ref p9, .ref p10, .ref p12, .ref p13, .ref p14]) := e15 ▸ upd_same
      have l15 := s15 _ _ l14
      refine ⟨_, rfl, ?_⟩
      refine rd_cat1 (.str "") rfl l15 hlx (fun Q1 k => k _ (Same.refl _)) fun H16 p16 s16 h16 => ?_
      have l16 := s16 _ _ l15
      refine rd_cat1 (.non) rfl l16 hlx (fun Q1 k => k _ (Same.refl _)) fun H17 p17 s17 h17 => ?_
      have l17 := s17 _ _ l16
      refine rd_cat1 (.int 5) rfl l17 hlx (fun Q1 k => k _ (Same.refl _)) fun H18 p18 s18 h18 => ?_
      have l18 := s18 _ _ l17
      refine ⟨_, rfl, (by show 1 ≤ sizeLine; decide), fun p19 n19 => ?_⟩
      generalize e19 : upd H18 p19 _ = H19
      have s19 : Same H18 H19 := e19 ▸ same_new n19
      have h19 : H19 p19 = some (.lst [.str "ann"]) := e19 ▸ upd_same
      have l19 := s19 _ _ l18
      refine ⟨(by show 1 ≤ sizeLine; decide), fun p20 n20 => ?_⟩
      generalize e20 : upd H19 p20 _ = H20
      have s20 : Same H19 H20 := e20 ▸ same_new n20
      have h20 : H20 p20 = some (.lst [.ref p19]) := e20 ▸ upd_same
      have l20 := s20 _ _ l19
      refine ⟨l, p20, _, _, rfl, rfl, l20, h20, ?_, ?_⟩
      · exact Nat.le_of_lt (small1000 (by rw [List.length_singleton]; omega))
      refine  fun p21 n21 => ?_
      generalize e21 : upd H20 p21 _ = H21
      have s21 : Same H20 H21 := e21 ▸ same_new n21
      have h21 : H21 p21 = some (.lst (zs.map V.str ++ [.ref p19])) := e21 ▸ upd_same
      have l21 := s21 _ _ l20
      refine rd_cat1 (.str "a b") rfl l21 hlx (fun Q1 k => k _ (Same.refl _)) fun H22 p22 s22 h22 => ?_
      have l22 := s22 _ _ l21
      refine ⟨(by show 5 ≤ sizeLine; decide), fun p23 n23 => ?_⟩
      generalize e23 : upd H22 p23 _ = H23
      have s23 : Same H22 H23 := e23 ▸ same_new n23
      have h23 : H23 p23 = some (.lst [.ref p16, .ref p17, .ref p18, .ref p21, .ref p22]) := e23 ▸ upd_same
      have l23 := s23 _ _ l22
      refine ⟨p15, p23, _, _, rfl, rfl, (s23 _ _ (s22 _ _ (s21 _ _ (s20 _ _ (s19 _ _ (s18 _ _ (s17 _ _ (s16 _ _ h15)))))))), h23, by show 10 + 5 ≤ sizeLine; decide, ?_⟩
      refine  fun p24 n24 => ?_
      generalize e24 : upd H23 p24 _ = H24
      have s24 : Same H23 H24 := e24 ▸ same_new n24
      have h24 : H24 p24 = some (.lst [.non, .int 5, .str "ann", .ref p7, .ref p8, .ref p9, .ref p10, .ref p12, .ref p13, .ref p14, .ref p16, .ref p17, .ref p18, .ref p21, .ref p22]) := e24 ▸ upd_same
      have l24 := s24 _ _ l23
      refine ⟨_, rfl, ?_⟩
      refine rd_cat1 (.str "a1") rfl l24 hlx (fun Q1 k => k _ (Same.refl _)) fun H25 p25 s25 h25 => ?_
      have l25 := s25 _ _ l24
      refine ⟨(by show 9 ≤ sizeLine; decide), fun p26 n26 => ?_⟩
      generalize e26 : upd H25 p26 _ = H26
      have s26 : Same H25 H26 := e26 ▸ same_new n26
      have h26 : H26 p26 = some (.lst [.str "a", .str "b", .str "c", .str "d", .str "e", .str "f", .str "g", .str "h", .str "i"]) := e26 ▸ upd_same
      have l26 := s26 _ _ l25
      refine ⟨(by show 2 ≤ sizeLine; decide), fun p27 n27 => ?_⟩
      generalize e27 : upd H26 p27 _ = H27
      have s27 : Same H26 H27 := e27 ▸ same_new n27
      have h27 : H27 p27 = some (.lst [.ref p25, .ref p26]) := e27 ▸ upd_same
      have l27 := s27 _ _ l26
      refine ⟨p24, p27, _, _, rfl, rfl, (s27 _ _ (s26 _ _ (s25 _ _ h24))), h27, by show 15 + 2 ≤ sizeLine; decide, ?_⟩
      refine  fun p28 n28 => ?_
      generalize e28 : upd H27 p28 _ = H28
      have s28 : Same H27 H28 := e28 ▸ same_new n28
      have h28 : H28 p28 = some (.lst [.non, .int 5, .str "ann", .ref p7, .ref p8, .ref p9, .ref p10, .ref p12, .ref p13, .ref p14, .ref p16, .ref p17, .ref p18, .ref p21, .ref p22, .ref p25, .ref p26]) := e28 ▸ upd_same
      have l28 := s28 _ _ l27
      have t28 : Same H28 H28 := Same.refl _
      have t27 : Same H27 H28 := s28.trans t28
      have t26 : Same H26 H28 := s27.trans t27
      have t25 : Same H25 H28 := s26.trans t26
      have t24 : Same H24 H28 := s25.trans t25
      have t23 : Same H23 H28 := s24.trans t24
      have t22 : Same H22 H28 := s23.trans t23
      have t21 : Same H21 H28 := s22.trans t22
      have t20 : Same H20 H28 := s21.trans t21
      have t19 : Same H19 H28 := s20.trans t20
      have t18 : Same H18 H28 := s19.trans t19
      have t17 : Same H17 H28 := s18.trans t18
      have t16 : Same H16 H28 := s17.trans t17
      have t15 : Same H15 H28 := s16.trans t16
      have t14 : Same H14 H28 := s15.trans t15
      have t13 : Same H13 H28 := s14.trans t14
      have t12 : Same H12 H28 := s13.trans t13
      have t11 : Same H11 H28 := s12.trans t12
      have t10 : Same H10 H28 := s11.trans t11
      have t9 : Same H9 H28 := s10.trans t10
      have t8 : Same H8 H28 := s9.trans t9
      have t7 : Same H7 H28 := s8.trans t8
      have t6 : Same H6 H28 := s7.trans t7
      have bads : ∀ y ∈ ([.non, .int 5, .str "ann", .ref p7, .ref p8, .ref p9, .ref p10, .ref p12, .ref p13, .ref p14, .ref p16, .ref p17, .ref p18, .ref p21, .ref p22, .ref p25, .ref p26] : List V), BadP K H28 y := List.forall_mem_cons.mpr ⟨BadP.same t6 (⟨[], .no (T := "NoneType") ⟨.base .non, by decide⟩ (by decide) (by decide)⟩), List.forall_mem_cons.mpr ⟨BadP.same t6 (⟨[], .no (T := "int") ⟨.base (.int _), by decide⟩ (by decide) (by decide)⟩), List.forall_mem_cons.mpr ⟨BadP.same t6 (⟨[], .no (T := "str") ⟨.base (.str _), by decide⟩ (by decide) (by decide)⟩), List.forall_mem_cons.mpr ⟨BadP.same t7 (⟨[], .lst' h7 (by simp) (by decide) (by decide +kernel)⟩), List.forall_mem_cons.mpr ⟨BadP.same t8 (⟨[], .tup' h8 (by simp) (by decide) (by decide +kernel)⟩), List.forall_mem_cons.mpr ⟨BadP.same t9 (⟨[], .no (T := "dict") ⟨.base (.dK h9), by decide⟩ (by decide) (by decide)⟩), List.forall_mem_cons.mpr ⟨BadP.same t10 (⟨[], .no (T := "dict") ⟨.base (.dK h10), by decide⟩ (by decide) (by decide)⟩), List.forall_mem_cons.mpr ⟨BadP.same t12 (bad12), List.forall_mem_cons.mpr ⟨BadP.same t13 (bad_append h13 dr.items hlx (item_str (by decide +kernel)) (by decide +kernel)), List.forall_mem_cons.mpr ⟨BadP.same t14 (bad_append h14 dr.items hlx (item_str (by decide +kernel)) (by decide +kernel)), List.forall_mem_cons.mpr ⟨BadP.same t16 (bad_append h16 dr.items hlx (item_str (by decide +kernel)) (by decide +kernel)), List.forall_mem_cons.mpr ⟨BadP.same t17 (bad_append h17 dr.items hlx item_non (by decide +kernel)), List.forall_mem_cons.mpr ⟨BadP.same t18 (bad_append h18 dr.items hlx item_int (by decide +kernel)), List.forall_mem_cons.mpr ⟨BadP.same t21 (bad_append h21 dr.items hlx (item_lst (s21 _ _ (s20 _ _ h19))) rfl), List.forall_mem_cons.mpr ⟨BadP.same t22 (bad_append h22 dr.items hlx (item_str (by decide +kernel)) (by decide +kernel)), List.forall_mem_cons.mpr ⟨BadP.same t25 (bad_append h25 dr.items hlx (item_str (by decide +kernel)) (by decide +kernel)), List.forall_mem_cons.mpr ⟨BadP.same t26 (⟨_, .lst' h26 (by intro x hx; simp only [List.mem_cons, List.not_mem_nil, or_false] at hx; rcases hx with rfl | rfl | rfl | rfl | rfl | rfl | rfl | rfl | rfl <;> exact item_str (by decide +kernel)) (by decide) (by decide +kernel)⟩), List.forall_mem_nil _⟩⟩⟩⟩⟩⟩⟩⟩⟩⟩⟩⟩⟩⟩⟩⟩⟩
      have sHN : Same H H28 := sH6.trans t6
      have tm : TyN K H28 (.int (1 + r2)) "int" := ⟨.base (.int _), by decide⟩
      -- what is no people
      refine ⟨_, rfl, p28, rfl, ⟨_, SqL.of h28⟩, ?_⟩
      refine for_list (K := K) (a := p28) (xs := [.non, .int 5, .str "ann", .ref p7, .ref p8, .ref p9, .ref p10, .ref p12, .ref p13, .ref p14, .ref p16, .ref p17, .ref p18, .ref p21, .ref p22, .ref p25, .ref p26]) (fun _ σ H' => ∃ v, σ = [some (.ref a), some (.int (0 + (i : Int))), some (.ref pl), some (.ref l), some (.int (1 + r2)), some (.ref p28), v] ∧ Same H28 H') ⟨_, rfl, Same.refl _⟩ (fun _ σ H' _ h => SqL.of (h.choose_spec.2 _ _ h28)) ?_ ?_
      · rintro j y σ H3 hy ⟨v, rfl, sW⟩
        obtain ⟨ys, hbad⟩ := bads y (List.mem_of_getElem? hy)
        refine ⟨_, rfl, _, rfl, y, .int (1 + r2), false, _, rfl, hbad.same sW, ⟨"int", .base (.int _), by decide⟩, fun Hxa px zx hzx sxa hx => ?_, fun hn => ?_⟩
        rotate_left
        · cases hn
        obtain rfl : "people" = zx := Option.some.inj hzx
        refine ⟨(by show 2 ≤ sizeLine; decide), fun qx nqx => ?_⟩
        generalize exb : upd Hxa qx _ = Hxb
        have sxb : Same Hxa Hxb := exb ▸ same_new nqx
        have hxb : Hxb qx = some (.lst [.str "people", .bl true]) := exb ▸ upd_same
        refine ⟨_, _, dp_told (sxb _ _ hx), dp_told hxb, shaped_people, shaped_people, _, rfl, ?_⟩
        rw [eqv_people]
        refine iteF ?_
        clear exb
        refine ⟨_, rfl, y, .int 0, false, _, rfl, hbad.same (sW.trans (sxa.trans sxb)), ⟨"int", .base (.int _), by decide⟩, fun Hya py zy hzy sya hy => ?_, fun hn => ?_⟩
        rotate_left
        · cases hn
        obtain rfl : "people" = zy := Option.some.inj hzy
        refine ⟨(by show 2 ≤ sizeLine; decide), fun qy nqy => ?_⟩
        generalize eyb : upd Hya qy _ = Hyb
        have syb : Same Hya Hyb := eyb ▸ same_new nqy
        have hyb : Hyb qy = some (.lst [.str "people", .bl true]) := eyb ▸ upd_same
        refine ⟨_, _, dp_told (syb _ _ hy), dp_told hyb, shaped_people, shaped_people, _, rfl, ?_⟩
        rw [eqv_people]
        refine iteF ?_
        clear eyb
        refine ⟨_, rfl, (sW.trans (sxa.trans sxb)).trans (sya.trans syb)⟩
      · rintro σ H3 ⟨v, rfl, sW⟩
        have lW := sW _ _ l28
        have sHW := sHN.trans sW
        refine ⟨_, rfl, (by show 1 ≤ sizeLine; decide), fun pm nm => ?_⟩
        generalize em : upd H3 pm _ = Hm
        have sm : Same H3 Hm := em ▸ same_new nm
        have hm : Hm pm = some (.lst [.int 5]) := em ▸ upd_same
        refine ⟨_, _, rfl, rfl, ⟨by decide, by decide, by decide⟩, (by show 8 ≤ sizeLine; decide), fun pw nw => ?_⟩
        generalize ew : upd Hm pw _ = Hw
        have sw : Same Hm Hw := ew ▸ same_new nw
        have hw : Hw pw = some (.lst [.non, .int 0, .int 11, .int (-1), .bl true, .str "5", .ref pm, .int (10 ^ 30)]) := ew ▸ upd_same
        have lw := sw _ _ (sm _ _ lW)
        have odds : ∀ y ∈ ([.non, .int 0, .int 11, .int (-1), .bl true, .str "5", .ref pm, .int (10 ^ 30)] : List V), (∃ T, TyN K Hw y T) ∧ markB 1 10 y = false := by
          intro y hy
          simp only [List.mem_cons, List.not_mem_nil, or_false] at hy
          rcases hy with rfl | rfl | rfl | rfl | rfl | rfl | rfl | rfl
          · exact ⟨⟨"NoneType", .base .non, by decide⟩, rfl⟩
          · exact ⟨⟨"int", .base (.int _), by decide⟩, by decide +kernel⟩
          · exact ⟨⟨"int", .base (.int _), by decide⟩, by decide +kernel⟩
          · exact ⟨⟨"int", .base (.int _), by decide⟩, by decide +kernel⟩
          · exact ⟨⟨"bool", .base (.bl _), by decide⟩, rfl⟩
          · exact ⟨⟨"str", .base (.str _), by decide⟩, rfl⟩
          · exact ⟨⟨"list", .base (.lst (sw _ _ hm)), by decide⟩, rfl⟩
          · exact ⟨⟨"int", .base (.int _), by decide⟩, by decide +kernel⟩
        refine ⟨pw, rfl, ⟨_, SqL.of hw⟩, ?_⟩
        refine for_list (K := K) (a := pw) (xs := [.non, .int 0, .int 11, .int (-1), .bl true, .str "5", .ref pm, .int (10 ^ 30)]) (fun _ σ H' => ∃ v, σ = [some (.ref a), some (.int (0 + (i : Int))), some (.ref pl), some (.ref l), some (.int (1 + r2)), some (.ref p28), v] ∧ Same Hw H') ⟨_, rfl, Same.refl _⟩ (fun _ σ H' _ h => SqL.of (h.choose_spec.2 _ _ hw)) ?_ ?_
        · rintro j y σ H4 hy ⟨v2, rfl, sV⟩
          obtain ⟨⟨N0, ty⟩, MB⟩ := odds y (List.mem_of_getElem? hy)
          have dp8 := dr.people hz1 (by omega)
          refine ⟨_, rfl, _, rfl, .ref l, y, true, _, rfl, .lst' (sV _ _ lw) dr.items (Nat.le_trans hlx (by decide)) dp8, ⟨N0, ty.same sV⟩, fun Hxa px zx hzx sxa hx => ?_, fun hn => ?_⟩
          rotate_left
          · rw [toldP_most MB] at hn
            cases hn
          rw [toldP_most MB] at hzx
          obtain rfl : "most" = zx := Option.some.inj hzx
          refine ⟨(by show 2 ≤ sizeLine; decide), fun qx nqx => ?_⟩
          generalize exb : upd Hxa qx _ = Hxb
          have sxb : Same Hxa Hxb := exb ▸ same_new nqx
          have hxb : Hxb qx = some (.lst [.str "most", .bl true]) := exb ▸ upd_same
          refine ⟨_, _, dp_told (sxb _ _ hx), dp_told hxb, shaped_most, shaped_most, _, rfl, ?_⟩
          rw [eqv_most]
          refine iteF ?_
          clear exb
          refine ⟨_, rfl, l, _, rfl, .inl ⟨SqL.of (sxb _ _ (sxa _ _ (sV _ _ lw))), fun pt nt => ?_⟩⟩
          generalize et : upd Hxb pt _ = Ht
          have st : Same Hxb Ht := et ▸ same_new nt
          have ht : Ht pt = some (.tup (zs.map V.str)) := et ▸ upd_same
          refine ⟨_, rfl, .ref pt, y, true, _, rfl, .tup' ht dr.items (Nat.le_trans hlx (by decide)) dp8, ⟨N0, ty.same (sV.trans ((sxa.trans sxb).trans st))⟩, fun Hya py zy hzy sya hy => ?_, fun hn => ?_⟩
          rotate_left
          · rw [toldP_most MB] at hn
            cases hn
          rw [toldP_most MB] at hzy
          obtain rfl : "most" = zy := Option.some.inj hzy
          refine ⟨(by show 2 ≤ sizeLine; decide), fun qy nqy => ?_⟩
          generalize eyb : upd Hya qy _ = Hyb
          have syb : Same Hya Hyb := eyb ▸ same_new nqy
          have hyb : Hyb qy = some (.lst [.str "most", .bl true]) := eyb ▸ upd_same
          refine ⟨_, _, dp_told (syb _ _ hy), dp_told hyb, shaped_most, shaped_most, _, rfl, ?_⟩
          rw [eqv_most]
          refine iteF ?_
          clear eyb
          refine ⟨_, rfl, (sV.trans ((sxa.trans sxb).trans st)).trans (sya.trans syb)⟩
        · rintro σ H4 ⟨v2, rfl, sV⟩
          have dp8 := dr.people hz1 (by omega)
          refine ⟨_, rfl, l, _, rfl, .inl ⟨SqL.of (sV _ _ lw), fun pt nt => ?_⟩⟩
          generalize et : upd H4 pt _ = Ht
          have st : Same H4 Ht := et ▸ same_new nt
          have ht : Ht pt = some (.tup (zs.map V.str)) := et ▸ upd_same
          have MT : markB 1 10 (.int (1 + r2)) = true := by
            show (decide (1 ≤ 1 + r2) && decide (1 + r2 ≤ 10)) = true
            rw [decide_eq_true (by omega), decide_eq_true (by omega)]
            rfl
          refine ⟨_, rfl, .ref pt, .int (1 + r2), true, _, rfl, .tup' ht dr.items (Nat.le_trans hlx (by decide)) dp8, ⟨"int", .base (.int _), by decide⟩, fun H5 p z hz => ?_, fun _ H5 s5 => ?_⟩
          · rw [toldP_taken MT] at hz
            cases hz
          refine ⟨_, _, .str _, .str _, shaped_taken, shaped_taken, _, rfl, ?_⟩
          rw [eqv_taken]
          refine iteF ⟨_, _, _, _, _, _, rfl, ?_⟩
          exact (sHW.trans (sm.trans sw)).trans (sV.trans (st.trans s5))
    · rintro σ H2 _
      exact q H2
end

theorem all_mk {l : PySem.W.OpenLaw} {w : World} {K : PySem.W.Frag} {h : Heap} {mg : Str → Option Value} {fa fIsInteger fIsIntegerWithin fIsWord fArePeople fOpened fDraw fPeople fTold fLaw CMarksError CBadCrowd fBadCrowdInit CCrowd fCrowdInit : Addr} (X : K.In h) (G : h.Ns mainGlobals mg) (hfa : mg "law" = some (.ref fa))
    {ocIsInteger kVIsInteger dcIsInteger pmIsInteger cdIsInteger ctIsInteger : Value} {odIsInteger anIsInteger : Option Addr} {slIsInteger : Array (Option Value)}
    {ocIsIntegerWithin kVIsIntegerWithin dcIsIntegerWithin pmIsIntegerWithin cdIsIntegerWithin ctIsIntegerWithin : Value} {odIsIntegerWithin anIsIntegerWithin : Option Addr} {slIsIntegerWithin : Array (Option Value)}
    {ocIsWord kVIsWord dcIsWord pmIsWord cdIsWord ctIsWord : Value} {odIsWord anIsWord : Option Addr} {slIsWord : Array (Option Value)}
    {ocArePeople kVArePeople dcArePeople pmArePeople cdArePeople ctArePeople : Value} {odArePeople anArePeople : Option Addr} {slArePeople : Array (Option Value)}
    {ocOpened kVOpened dcOpened pmOpened cdOpened ctOpened : Value} {odOpened anOpened : Option Addr} {slOpened : Array (Option Value)}
    {ocDraw kVDraw dcDraw pmDraw cdDraw ctDraw : Value} {odDraw anDraw : Option Addr} {slDraw : Array (Option Value)}
    {ocPeople kVPeople dcPeople pmPeople cdPeople ctPeople : Value} {odPeople anPeople : Option Addr} {slPeople : Array (Option Value)}
    {ocTold kVTold dcTold pmTold cdTold ctTold : Value} {odTold anTold : Option Addr} {slTold : Array (Option Value)}
    {ocLaw kVLaw dcLaw pmLaw cdLaw ctLaw : Value} {odLaw anLaw : Option Addr} {slLaw : Array (Option Value)}
    {nmBadCrowd qBadCrowd : Str} {NBadCrowd : Addr} {bsBadCrowd : List Value} {snBadCrowd : List Str} {subBadCrowd : List Value} {abBadCrowd : Bool} {colBadCrowd : Option Bool} {ddBadCrowd : Option Addr} {m0BadCrowd m1BadCrowd m2BadCrowd m3BadCrowd m5BadCrowd : Option Value}
    {ocBadCrowdInit kVBadCrowdInit dcBadCrowdInit pmBadCrowdInit cdBadCrowdInit ctBadCrowdInit : Value} {odBadCrowdInit anBadCrowdInit : Option Addr} {slBadCrowdInit : Array (Option Value)}
    {ocCrowdInit kVCrowdInit dcCrowdInit pmCrowdInit cdCrowdInit ctCrowdInit : Value} {odCrowdInit anCrowdInit : Option Addr} {slCrowdInit : Array (Option Value)}
    {t_LETTERS : Tok}
    {t_LONGEST : Tok}
    {t_MOST_PEOPLE : Tok}
    {t_GREATEST_MARK : Tok}
    (aIsInteger : PySem.W.nsIn K mainGlobals "is_integer" = some (some (.ref fIsInteger)))
    (lIsInteger : K.lookup fIsInteger = some ⟨ocIsInteger, odIsInteger, .func (PySem.W.fnOf "is_integer" "is_integer" (defArgs sIsInteger) (defBody sIsInteger) (defScope sIsInteger) .none kVIsInteger dcIsInteger pmIsInteger anIsInteger cdIsInteger ctIsInteger), slIsInteger⟩)
    (cIsInteger : PySem.W.codeIn K cdIsInteger "is_integer" = true)
    (kIsInteger : PySem.W.keepIn K (.ref fIsInteger) = true)
    (aIsIntegerWithin : PySem.W.nsIn K mainGlobals "is_integer_within" = some (some (.ref fIsIntegerWithin)))
    (lIsIntegerWithin : K.lookup fIsIntegerWithin = some ⟨ocIsIntegerWithin, odIsIntegerWithin, .func (PySem.W.fnOf "is_integer_within" "is_integer_within" (defArgs sIsIntegerWithin) (defBody sIsIntegerWithin) (defScope sIsIntegerWithin) .none kVIsIntegerWithin dcIsIntegerWithin pmIsIntegerWithin anIsIntegerWithin cdIsIntegerWithin ctIsIntegerWithin), slIsIntegerWithin⟩)
    (cIsIntegerWithin : PySem.W.codeIn K cdIsIntegerWithin "is_integer_within" = true)
    (kIsIntegerWithin : PySem.W.keepIn K (.ref fIsIntegerWithin) = true)
    (aIsWord : PySem.W.nsIn K mainGlobals "is_word" = some (some (.ref fIsWord)))
    (lIsWord : K.lookup fIsWord = some ⟨ocIsWord, odIsWord, .func (PySem.W.fnOf "is_word" "is_word" (defArgs sIsWord) (defBody sIsWord) (defScope sIsWord) .none kVIsWord dcIsWord pmIsWord anIsWord cdIsWord ctIsWord), slIsWord⟩)
    (cIsWord : PySem.W.codeIn K cdIsWord "is_word" = true)
    (kIsWord : PySem.W.keepIn K (.ref fIsWord) = true)
    (aArePeople : PySem.W.nsIn K mainGlobals "are_people" = some (some (.ref fArePeople)))
    (lArePeople : K.lookup fArePeople = some ⟨ocArePeople, odArePeople, .func (PySem.W.fnOf "are_people" "are_people" (defArgs sArePeople) (defBody sArePeople) (defScope sArePeople) .none kVArePeople dcArePeople pmArePeople anArePeople cdArePeople ctArePeople), slArePeople⟩)
    (cArePeople : PySem.W.codeIn K cdArePeople "are_people" = true)
    (kArePeople : PySem.W.keepIn K (.ref fArePeople) = true)
    (aOpened : PySem.W.nsIn K mainGlobals "_law_opened" = some (some (.ref fOpened)))
    (lOpened : K.lookup fOpened = some ⟨ocOpened, odOpened, .func (PySem.W.fnOf "_law_opened" "_law_opened" (defArgs sOpened) (defBody sOpened) (defScope sOpened) .none kVOpened dcOpened pmOpened anOpened cdOpened ctOpened), slOpened⟩)
    (cOpened : PySem.W.codeIn K cdOpened "_law_opened" = true)
    (kOpened : PySem.W.keepIn K (.ref fOpened) = true)
    (aDraw : PySem.W.nsIn K mainGlobals "_law_draw" = some (some (.ref fDraw)))
    (lDraw : K.lookup fDraw = some ⟨ocDraw, odDraw, .func (PySem.W.fnOf "_law_draw" "_law_draw" (defArgs sDraw) (defBody sDraw) (defScope sDraw) .none kVDraw dcDraw pmDraw anDraw cdDraw ctDraw), slDraw⟩)
    (cDraw : PySem.W.codeIn K cdDraw "_law_draw" = true)
    (kDraw : PySem.W.keepIn K (.ref fDraw) = true)
    (aPeople : PySem.W.nsIn K mainGlobals "_law_people" = some (some (.ref fPeople)))
    (lPeople : K.lookup fPeople = some ⟨ocPeople, odPeople, .func (PySem.W.fnOf "_law_people" "_law_people" (defArgs sPeople) (defBody sPeople) (defScope sPeople) .none kVPeople dcPeople pmPeople anPeople cdPeople ctPeople), slPeople⟩)
    (cPeople : PySem.W.codeIn K cdPeople "_law_people" = true)
    (kPeople : PySem.W.keepIn K (.ref fPeople) = true)
    (aTold : PySem.W.nsIn K mainGlobals "_law_told" = some (some (.ref fTold)))
    (lTold : K.lookup fTold = some ⟨ocTold, odTold, .func (PySem.W.fnOf "_law_told" "_law_told" (defArgs sTold) (defBody sTold) (defScope sTold) .none kVTold dcTold pmTold anTold cdTold ctTold), slTold⟩)
    (cTold : PySem.W.codeIn K cdTold "_law_told" = true)
    (kTold : PySem.W.keepIn K (.ref fTold) = true)
    (aLaw : PySem.W.nsIn K mainGlobals "law" = some (some (.ref fLaw)))
    (lLaw : K.lookup fLaw = some ⟨ocLaw, odLaw, .func (PySem.W.fnOf "law" "law" (defArgs sLaw) (defBody sLaw) (defScope sLaw) .none kVLaw dcLaw pmLaw anLaw cdLaw ctLaw), slLaw⟩)
    (cLaw : PySem.W.codeIn K cdLaw "law" = true)
    (kLaw : PySem.W.keepIn K (.ref fLaw) = true)
    (aMarksError : PySem.W.nsIn K mainGlobals "MarksError" = some (some (.ref CMarksError)))
    (aBadCrowd : PySem.W.nsIn K mainGlobals "BadCrowd" = some (some (.ref CBadCrowd)))
    (xBadCrowd : K.lookup CBadCrowd = some (excClassObj nmBadCrowd qBadCrowd CBadCrowd NBadCrowd bsBadCrowd (.ref CMarksError :: [.type "ValueError", .type "Exception", .type "BaseException", .type "object"]) true snBadCrowd subBadCrowd abBadCrowd colBadCrowd ddBadCrowd m0BadCrowd m1BadCrowd m2BadCrowd m3BadCrowd m5BadCrowd "ValueError.__new__"))
    (saBadCrowd : PySem.W.findIn K (.ref CBadCrowd) "__setattr__" = some (some (.builtin "object.__setattr__")))
    (gaBadCrowd : PySem.W.findIn K (.ref CBadCrowd) "__getattribute__" = some (some (.builtin "BaseException.__getattribute__")))
    (ggBadCrowd : PySem.W.findIn K (.ref CBadCrowd) "__getattr__" = some none)
    (noBadCrowdpart : PySem.W.findIn K (.ref CBadCrowd) "part" = some none)
    (exBadCrowd : PySem.W.subIn K (.ref CBadCrowd) (.type "BaseException") = some true)
    (tyBadCrowd : PySem.W.typeIn K (.ref CBadCrowd) = some (.type "type"))
    (kkBadCrowd : PySem.W.keepIn K (.ref CBadCrowd) = true)
    (hdBadCrowd : PySem.W.hasDictIn K CBadCrowd = true)
    (ccBadCrowd : PySem.W.findIn K (.ref CBadCrowd) "__class__" = some (some (.builtin "object.__class__")))
    (mrBadCrowd : PySem.W.mroIn K CBadCrowd (.type "object") = some true)
    (ssBadCrowd : PySem.W.subIn K (.ref CBadCrowd) (.ref CBadCrowd) = some true)
    (iBadCrowd : PySem.W.findIn K (.ref CBadCrowd) "__init__" = some (some (.ref fBadCrowdInit)))
    (tBadCrowd : PySem.W.typeIn K (.ref fBadCrowdInit) = some (.type "function"))
    (lBadCrowdInit : K.lookup fBadCrowdInit = some ⟨ocBadCrowdInit, odBadCrowdInit, .func (PySem.W.fnOf "__init__" "BadCrowd.__init__" (defArgs sBadCrowdInit) (defBody sBadCrowdInit) (defScope sBadCrowdInit) .none kVBadCrowdInit dcBadCrowdInit pmBadCrowdInit anBadCrowdInit cdBadCrowdInit ctBadCrowdInit), slBadCrowdInit⟩)
    (cBadCrowdInit : PySem.W.codeIn K cdBadCrowdInit "BadCrowd.__init__" = true)
    (kBadCrowdInit : PySem.W.keepIn K (.ref fBadCrowdInit) = true)
    (spg : PySem.W.specialIn K (.builtin "object.__class__") "__get__" = some (some (.builtin "getset_descriptor.__get__")))
    (tkc : PySem.W.takesIn K (.builtin "object.__class__") = some true)
    (kitBadCrowdMarksError : PySem.W.kitOne K (.ref CBadCrowd) (.ref CMarksError) = some true)
    (aCrowd : PySem.W.nsIn K mainGlobals "Crowd" = some (some (.ref CCrowd)))
    (pgCrowd : PySem.W.plainGet K CCrowd Str.empty = true)
    (hdCrowd : PySem.W.hasDictIn K CCrowd = true)
    (poCrowd : PySem.W.plainOver K CCrowd = true)
    (saCrowd : PySem.W.findIn K (.ref CCrowd) "__setattr__" = some (some (.builtin "object.__setattr__")))
    (mkCrowd : PySem.W.makesIn K CCrowd = true)
    (kcCrowd : PySem.W.keepIn K (.ref CCrowd) = true)
    (noCrowd_people : PySem.W.findIn K (.ref CCrowd) "_people" = some none)
    (noCrowdmost : PySem.W.findIn K (.ref CCrowd) "most" = some none)
    (mCrowdInit : PySem.W.findIn K (.ref CCrowd) "__init__" = some (some (.ref fCrowdInit)))
    (isfCrowdInit : PySem.W.isFn K (.ref fCrowdInit) = true)
    (lCrowdInit : K.lookup fCrowdInit = some ⟨ocCrowdInit, odCrowdInit, .func (PySem.W.fnOf "__init__" "Crowd.__init__" (defArgs sCrowdInit) (defBody sCrowdInit) (defScope sCrowdInit) .none kVCrowdInit dcCrowdInit pmCrowdInit anCrowdInit cdCrowdInit ctCrowdInit), slCrowdInit⟩)
    (cCrowdInit : PySem.W.codeIn K cdCrowdInit "Crowd.__init__" = true)
    (kCrowdInit : PySem.W.keepIn K (.ref fCrowdInit) = true)
    (z_len : PySem.W.nsIn K mainGlobals "len" = some none)
    (z_max : PySem.W.nsIn K mainGlobals "max" = some none)
    (z_min : PySem.W.nsIn K mainGlobals "min" = some none)
    (z_int : PySem.W.nsIn K mainGlobals "int" = some none)
    (z_range : PySem.W.nsIn K mainGlobals "range" = some none)
    (z_isinstance : PySem.W.nsIn K mainGlobals "isinstance" = some none)
    (z_str : PySem.W.nsIn K mainGlobals "str" = some none)
    (z_bool : PySem.W.nsIn K mainGlobals "bool" = some none)
    (z_list : PySem.W.nsIn K mainGlobals "list" = some none)
    (z_tuple : PySem.W.nsIn K mainGlobals "tuple" = some none)
    (z_set : PySem.W.nsIn K mainGlobals "set" = some none)
    (z_all : PySem.W.nsIn K mainGlobals "all" = some none)
    (z_LETTERS : PySem.W.nsIn K mainGlobals "LETTERS" = some (some (.str letters t_LETTERS)))
    (z_LONGEST : PySem.W.nsIn K mainGlobals "LONGEST" = some (some (.int 8 t_LONGEST)))
    (z_MOST_PEOPLE : PySem.W.nsIn K mainGlobals "MOST_PEOPLE" = some (some (.int 8 t_MOST_PEOPLE)))
    (z_GREATEST_MARK : PySem.W.nsIn K mainGlobals "GREATEST_MARK" = some (some (.int 10 t_GREATEST_MARK))) :
    ∃ fd : FuncData, (∀ (s : Shared) (v : Value), BindsTo s fd ⟨[v], []⟩ [("_law_script", v)]) ∧ ∀ base : Heap, K.In base → base.Ns mainGlobals mg → FnOk l.prog w K mg base CX0 6 fa fd ["_law_script"] (spLaw K) := by
  have e := hfa.symm.trans (PySem.W.mg_of X G aLaw)
  cases e
  have FIsInteger := fun_mk (st := sIsInteger) lIsInteger cIsInteger kIsInteger
  have FIsIntegerWithin := fun_mk (st := sIsIntegerWithin) lIsIntegerWithin cIsIntegerWithin kIsIntegerWithin
  have FIsWord := fun_mk (st := sIsWord) lIsWord cIsWord kIsWord
  have FArePeople := fun_mk (st := sArePeople) lArePeople cArePeople kArePeople
  have FOpened := fun_mk (st := sOpened) lOpened cOpened kOpened
  have FDraw := fun_mk (st := sDraw) lDraw cDraw kDraw
  have FPeople := fun_mk (st := sPeople) lPeople cPeople kPeople
  have FTold := fun_mk (st := sTold) lTold cTold kTold
  have FLaw := fun_mk (st := sLaw) lLaw cLaw kLaw
  have hl : ∀ {x q : Str} {st : Stmt} {f : Addr} {fd : FuncData}, Fun K x q st f fd → True := fun _ => trivial
  have B : Bt mg := ⟨PySem.W.mg_none_of X G z_len, PySem.W.mg_none_of X G z_max, PySem.W.mg_none_of X G z_min, PySem.W.mg_none_of X G z_int, PySem.W.mg_none_of X G z_range⟩
  have T : Tx mg := ⟨PySem.W.mg_none_of X G z_isinstance, PySem.W.mg_none_of X G z_str, PySem.W.mg_none_of X G z_bool, PySem.W.mg_none_of X G z_list, PySem.W.mg_none_of X G z_tuple, PySem.W.mg_none_of X G z_set, PySem.W.mg_none_of X G z_all,
    ⟨_, PySem.W.mg_of X G z_LETTERS⟩, ⟨_, PySem.W.mg_of X G z_LONGEST⟩, ⟨_, PySem.W.mg_of X G z_MOST_PEOPLE⟩, ⟨_, PySem.W.mg_of X G z_GREATEST_MARK⟩⟩
  have FBadCrowdInit := fun_mk (st := sBadCrowdInit) lBadCrowdInit cBadCrowdInit kBadCrowdInit
  have FCrowdInit := fun_mk (st := sCrowdInit) lCrowdInit cCrowdInit kCrowdInit
  have b1 : ∀ {x q : Str} {st : Stmt}, True := trivial
  have bIsInteger := FIsInteger.binds (ps := ["value"]) fun _ _ _ _ _ _ us hl => match us, hl with | [_], _ => rfl
  have bIsWord := FIsWord.binds (ps := ["value"]) fun _ _ _ _ _ _ us hl => match us, hl with | [_], _ => rfl
  have bWithin := FIsIntegerWithin.binds (ps := ["value", "least", "most"]) fun _ _ _ _ _ _ us hl => match us, hl with | [_, _, _], _ => rfl
  have bArePeople := FArePeople.binds (ps := ["value"]) fun _ _ _ _ _ _ us hl => match us, hl with | [_], _ => rfl
  have bBad := FBadCrowdInit.binds (ps := ["self", "part"]) fun _ _ _ _ _ _ us hl => match us, hl with | [_, _], _ => rfl
  have bCrowd := FCrowdInit.binds (ps := ["self", "people", "most"]) fun _ _ _ _ _ _ us hl => match us, hl with | [_, _, _], _ => rfl
  have bOpened := FOpened.binds (ps := ["_law_script", "_law_k"]) fun _ _ _ _ _ _ us hl => match us, hl with | [_, _], _ => rfl
  have bDraw := FDraw.binds (ps := ["_law_pool", "_law_many"]) fun _ _ _ _ _ _ us hl => match us, hl with | [_, _], _ => rfl
  have bPeople := FPeople.binds (ps := ["_law_pool", "_law_many"]) fun _ _ _ _ _ _ us hl => match us, hl with | [_, _], _ => rfl
  have bTold := FTold.binds (ps := ["_law_people_here", "_law_most"]) fun _ _ _ _ _ _ us hl => match us, hl with | [_, _], _ => rfl
  have ox : OexC K CBadCrowd := ⟨⟨_, _, _, _, _, _, _, _, _, _, _, _, _, _, _, xBadCrowd, by show PySem.HandSPX.refsVE [.type "ValueError", .type "Exception", .type "BaseException", .type "object"] = true; decide +kernel⟩, saBadCrowd, exBadCrowd, tyBadCrowd, kkBadCrowd⟩
  have EB : Er K mg "BadCrowd" CBadCrowd := ⟨PySem.W.mg_of X G aBadCrowd, ox, ⟨gaBadCrowd, ggBadCrowd, exBadCrowd, hdBadCrowd⟩, ⟨gaBadCrowd, ggBadCrowd, exBadCrowd, hdBadCrowd, ccBadCrowd, spg, tkc, mrBadCrowd⟩, PySem.W.exm_ref exBadCrowd hdBadCrowd tyBadCrowd ssBadCrowd⟩
  refine ⟨PySem.W.fnOf "law" "law" (defArgs sLaw) (defBody sLaw) (defScope sLaw) .none kVLaw dcLaw pmLaw anLaw cdLaw ctLaw, fun s v => .of_eq rfl, fun base _ _ => ?_⟩
  have GA := ok_arePeople (P := l.prog) (w := w) (base := base) FArePeople FIsWord bIsWord (PySem.W.mg_of X G aIsWord) B T
  have GN := ok_within (P := l.prog) (w := w) (base := base) FIsIntegerWithin FIsInteger bIsInteger (PySem.W.mg_of X G aIsInteger) B T
  have GB := ok_badCrowdInit (P := l.prog) (w := w) (mg := mg) (base := base) (C := CBadCrowd) FBadCrowdInit
  have GC := ok_crowdInit (P := l.prog) (w := w) (base := base) (C := CCrowd) FCrowdInit GA kArePeople bArePeople (PySem.W.mg_of X G aArePeople) GN kIsIntegerWithin bWithin (PySem.W.mg_of X G aIsIntegerWithin) GB bBad iBadCrowd tBadCrowd EB noBadCrowdpart ⟨pgCrowd, hdCrowd, poCrowd, saCrowd⟩ noCrowd_people noCrowdmost T
  have GT := ok_told (P := l.prog) (w := w) (base := base) FTold GC ⟨mkCrowd, mCrowdInit, isfCrowdInit, kcCrowd⟩ (PySem.W.mg_of X G aCrowd) bCrowd EB noBadCrowdpart (PySem.W.mg_of X G aMarksError) kitBadCrowdMarksError T
  exact ok_law FLaw GT FTold bTold (PySem.W.mg_of X G aTold) FOpened bOpened (PySem.W.mg_of X G aOpened) FDraw bDraw (PySem.W.mg_of X G aDraw) FPeople bPeople (PySem.W.mg_of X G aPeople) B T
end K03
open PySem PySem.W PyProof.Rows in
set_option maxRecDepth 100000 in
set_option maxHeartbeats 0 in
theorem PySem.Challenge.cw_ownmarks_k03_crowds_refused_holds : PySem.Challenge.rw_ownmarks_k03_crowds_refused.Holds := by
  w_on; o_law; k_head; (case hw => w_witness2)
  k_fill
  refine L2.walk_ofK (l := PySem.Challenge.rw_ownmarks_k03_crowds_refused) (n := 63) (k := 6) (x := "_law_script") (CX := L2.CX0) (sp := K03.spLaw) rfl (by decide) rfl ⟨rfl, by decide, by decide⟩ (fun w h Y => PySem.W.kIn_of Y) ?F ?S (fun _ _ _ _ z => z)
  case F =>
    intro w mg fa h KX G hmg
    refine' K03.all_mk KX G hmg ?aIsInteger ?lIsInteger ?cIsInteger ?kIsInteger ?aIsIntegerWithin ?lIsIntegerWithin ?cIsIntegerWithin ?kIsIntegerWithin ?aIsWord ?lIsWord ?cIsWord ?kIsWord ?aArePeople ?lArePeople ?cArePeople ?kArePeople ?aOpened ?lOpened ?cOpened ?kOpened ?aDraw ?lDraw ?cDraw ?kDraw ?aPeople ?lPeople ?cPeople ?kPeople ?aTold ?lTold ?cTold ?kTold ?aLaw ?lLaw ?cLaw ?kLaw ?aMarksError ?aBadCrowd ?xBadCrowd ?saBadCrowd ?gaBadCrowd ?ggBadCrowd ?noBadCrowdpart ?exBadCrowd ?tyBadCrowd ?kkBadCrowd ?hdBadCrowd ?ccBadCrowd ?mrBadCrowd ?ssBadCrowd ?iBadCrowd ?tBadCrowd ?lBadCrowdInit ?cBadCrowdInit ?kBadCrowdInit ?spg ?tkc ?kitBadCrowdMarksError ?aCrowd ?pgCrowd ?hdCrowd ?poCrowd ?saCrowd ?mkCrowd ?kcCrowd ?noCrowd_people ?noCrowdmost ?mCrowdInit ?isfCrowdInit ?lCrowdInit ?cCrowdInit ?kCrowdInit ?z_len ?z_max ?z_min ?z_int ?z_range ?z_isinstance ?z_str ?z_bool ?z_list ?z_tuple ?z_set ?z_all ?z_LETTERS ?z_LONGEST ?z_MOST_PEOPLE ?z_GREATEST_MARK
    (case aIsInteger => first | k_is | rfl)
    (case lIsInteger => first | k_is | rfl)
    (case cIsInteger => first | k_is | rfl)
    (case kIsInteger => first | k_is | rfl)
    (case aIsIntegerWithin => first | k_is | rfl)
    (case lIsIntegerWithin => first | k_is | rfl)
    (case cIsIntegerWithin => first | k_is | rfl)
    (case kIsIntegerWithin => first | k_is | rfl)
    (case aIsWord => first | k_is | rfl)
    (case lIsWord => first | k_is | rfl)
    (case cIsWord => first | k_is | rfl)
    (case kIsWord => first | k_is | rfl)
    (case aArePeople => first | k_is | rfl)
    (case lArePeople => first | k_is | rfl)
    (case cArePeople => first | k_is | rfl)
    (case kArePeople => first | k_is | rfl)
    (case aOpened => first | k_is | rfl)
    (case lOpened => first | k_is | rfl)
    (case cOpened => first | k_is | rfl)
    (case kOpened => first | k_is | rfl)
    (case aDraw => first | k_is | rfl)
    (case lDraw => first | k_is | rfl)
    (case cDraw => first | k_is | rfl)
    (case kDraw => first | k_is | rfl)
    (case aPeople => first | k_is | rfl)
    (case lPeople => first | k_is | rfl)
    (case cPeople => first | k_is | rfl)
    (case kPeople => first | k_is | rfl)
    (case aTold => first | k_is | rfl)
    (case lTold => first | k_is | rfl)
    (case cTold => first | k_is | rfl)
    (case kTold => first | k_is | rfl)
    (case aLaw => first | k_is | rfl)
    (case lLaw => first | k_is | rfl)
    (case cLaw => first | k_is | rfl)
    (case kLaw => first | k_is | rfl)
    (case aMarksError => first | k_is | rfl)
    (case aBadCrowd => first | k_is | rfl)
    (case xBadCrowd => first | k_is | rfl)
    (case saBadCrowd => first | k_is | rfl)
    (case gaBadCrowd => first | k_is | rfl)
    (case ggBadCrowd => first | k_is | rfl)
    (case noBadCrowdpart => first | k_is | rfl)
    (case exBadCrowd => first | k_is | rfl)
    (case tyBadCrowd => first | k_is | rfl)
    (case kkBadCrowd => first | k_is | rfl)
    (case hdBadCrowd => first | k_is | rfl)
    (case ccBadCrowd => first | k_is | rfl)
    (case mrBadCrowd => first | k_is | rfl)
    (case ssBadCrowd => first | k_is | rfl)
    (case iBadCrowd => first | k_is | rfl)
    (case tBadCrowd => first | k_is | rfl)
    (case lBadCrowdInit => first | k_is | rfl)
    (case cBadCrowdInit => first | k_is | rfl)
    (case kBadCrowdInit => first | k_is | rfl)
    (case spg => first | k_is | rfl)
    (case tkc => first | k_is | rfl)
    (case kitBadCrowdMarksError => first | k_is | rfl)
    (case aCrowd => first | k_is | rfl)
    (case pgCrowd => first | k_is | rfl)
    (case hdCrowd => first | k_is | rfl)
    (case poCrowd => first | k_is | rfl)
    (case saCrowd => first | k_is | rfl)
    (case mkCrowd => first | k_is | rfl)
    (case kcCrowd => first | k_is | rfl)
    (case noCrowd_people => first | k_is | rfl)
    (case noCrowdmost => first | k_is | rfl)
    (case mCrowdInit => first | k_is | rfl)
    (case isfCrowdInit => first | k_is | rfl)
    (case lCrowdInit => first | k_is | rfl)
    (case cCrowdInit => first | k_is | rfl)
    (case kCrowdInit => first | k_is | rfl)
    (case z_len => first | k_is | rfl)
    (case z_max => first | k_is | rfl)
    (case z_min => first | k_is | rfl)
    (case z_int => first | k_is | rfl)
    (case z_range => first | k_is | rfl)
    (case z_isinstance => first | k_is | rfl)
    (case z_str => first | k_is | rfl)
    (case z_bool => first | k_is | rfl)
    (case z_list => first | k_is | rfl)
    (case z_tuple => first | k_is | rfl)
    (case z_set => first | k_is | rfl)
    (case z_all => first | k_is | rfl)
    (case z_LETTERS => first | k_is | rfl)
    (case z_LONGEST => first | k_is | rfl)
    (case z_MOST_PEOPLE => first | k_is | rfl)
    (case z_GREATEST_MARK => first | k_is | rfl)
  case S =>
    intro K H a ns hl _ hS
    exact ⟨a, ns, rfl, hS, hl, fun _ => rfl⟩


