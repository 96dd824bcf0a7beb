import PyProof.Rows.All
import Wide.All
import OpenK.AllK
import Wide.FinOn
import HandS.ForMost
import HandS.IsInst
import HandS.Style
import HandS.Wide
import HandS.WideMore
import HandS.Zip
import HandS.Flow
import HandS.SetFor
import HandS.Strs
import HandS.SortInts
import HandS.ExcInit
import HandS.ExcField
import HandS.ExcIs
import HandS.ExcValue
import HandS.WordsExc
import HandS.NoneIn
import HandS.Conv
import KE.KExcIs
import KE.GoesMore
import PyProof.Draws
import PySem.Challenge.RW_turnsums_k01_words_and_refusals
set_option Elab.async false
set_option linter.all false
set_option maxRecDepth 100000
set_option maxHeartbeats 4000000
namespace My
open PySem L2
def top (i : Nat) : Stmt := PySem.Challenge.pw_turnsums_k01_words_and_refusals.main.body.getD i (.Pass ⟨0, 0, 0, 0⟩)
/-- a def of the text: where it stands, how it is called -/
structure Df (K : PySem.W.Frag) (mg : Str → Option Value) (x : Str) (st : Stmt) (ps : List Str) (f : Addr) (fd : FuncData) : Prop where
  F : Fun K x x st f fd
  b : Binds K fd ps []
  g : mg x = some (.ref f)
/-! heaps: all but the box stays -/
theorem same_upd {H H' : Hp} {p : Addr} {o : HO} (h : Same H H') (n : H' p = none) : Same H (upd H' p o) := fun b x e => by
  rw [upd_ne (ne_of_none (h b x e) n)]
  exact h b x e
theorem same_new {H : Hp} {p : Addr} {o : HO} (n : H p = none) : Same H (upd H p o) := same_upd (Same.refl H) n
theorem same_mut {H H' : Hp} {p : Addr} {o : HO} (h : Same H H') (n : H p = none) : Same H (upd H' p o) := fun b x e => by
  rw [upd_ne (ne_of_none e n)]
  exact h b x e
theorem same_t {K : PySem.W.Frag} {H H' : Hp} {a : Addr} {xs : List V} (e : Same H H') (h : SqT K H a xs) : SqT K H' a xs := by
  rcases h with (h | ⟨o, h⟩) | h
  · exact .inl (.inl (e _ _ h))
  · exact .inl (.inr ⟨o, e _ _ h⟩)
  · exact .inr h
def Keep (b : Addr) (H H' : Hp) : Prop := ∀ a o, a ≠ b → H a = some o → H' a = some o
theorem Keep.refl (b : Addr) (H : Hp) : Keep b H H := fun _ _ _ h => h
theorem Keep.trans {b : Addr} {H H1 H2 : Hp} (a : Keep b H H1) (c : Keep b H1 H2) : Keep b H H2 := fun x o n h => c x o n (a x o n h)
theorem keepS {b : Addr} {H H' : Hp} (h : Same H H') : Keep b H H' := fun x o _ e => h x o e
theorem keep_same {b : Addr} {H0 H H' : Hp} (a : Same H0 H) (n : H0 b = none) (k : Keep b H H') : Same H0 H' := fun x o e => k x o (ne_of_none e n) (a x o e)
theorem keep_upd {b : Addr} {H H' : Hp} {o : HO} (h : Keep b H H') : Keep b H (upd H' b o) := fun a u n e => by
  rw [upd_ne n]
  exact h a u n e
theorem keep_new {b p : Addr} {H H' : Hp} {o : HO} (h : Keep b H H') (n : H' p = none) : Keep b H (upd H' p o) := fun a u na e => by
  rw [upd_ne (ne_of_none (h a u na e) n)]
  exact h a u na e
theorem Keep.seq {K : PySem.W.Frag} {b a : Addr} {H H' : Hp} {xs : List V} (e : Keep b H H') (n : a ≠ b) (h : SqL K H a xs) : SqL K H' a xs := by
  rcases h with (h | ⟨o, h⟩) | h
  · exact .inl (.inl (e _ _ n h))
  · exact .inl (.inr ⟨o, e _ _ n h⟩)
  · exact .inr h
def BoxAt (H : Hp) (b : Addr) (n : Int) : Prop := ∃ x y z : Int, H b = some (.lst [.int x, .int y, .int z]) ∧ 0 ≤ x ∧ 0 ≤ y ∧ y ≤ 4294967296 ∧ 0 ≤ z ∧ z ≤ n
theorem BoxAt.mono {H : Hp} {b : Addr} {n m : Int} (h : BoxAt H b n) (e : n ≤ m) : BoxAt H b m := by
  obtain ⟨x, y, z, a1, a2, a3, a4, a5, a6⟩ := h
  exact ⟨x, y, z, a1, a2, a3, a4, a5, by omega⟩
theorem BoxAt.same {H H' : Hp} {b : Addr} {n : Int} (h : BoxAt H b n) (e : Same H H') : BoxAt H' b n := by
  obtain ⟨x, y, z, a1, a2⟩ := h
  exact ⟨x, y, z, e _ _ a1, a2⟩
theorem BoxAt.some {H : Hp} {b : Addr} {n : Int} (h : BoxAt H b n) : ∃ o, H b = some o := by
  obtain ⟨x, y, z, a1, a2⟩ := h
  exact ⟨_, a1⟩
theorem BoxAt.ne {H : Hp} {b p : Addr} {n : Int} (h : BoxAt H b n) (e : H p = none) : p ≠ b := by
  obtain ⟨o, h⟩ := h.some
  exact (ne_of_none h e).symm
theorem szl {n : Nat} (h : n ≤ 60000) : n ≤ sizeLine := Nat.le_trans h (by decide)
theorem szm {n : Nat} (h : n ≤ 60000) : n < sizeLine := Nat.lt_of_le_of_lt h (by decide)
theorem pw6 : (10 : Int) ^ Int.toNat 6 = 1000000 := by decide
theorem pw9 : (10 : Int) ^ Int.toNat 9 = 1000000000 := by decide
theorem newO {H H' : Hp} {p : Addr} {o : HO} (e : upd H p o = H') (hp : H p = none) : Same H H' ∧ H' p = some o := by
  subst e
  exact ⟨same_new hp, upd_same⟩
theorem mutO {H H' : Hp} {p : Addr} {o : HO} (e : upd H p o = H') : Keep p H H' ∧ H' p = some o := by
  subst e
  exact ⟨keep_upd (Keep.refl _ _), upd_same⟩
/-- a word of ours that the walk must not open -/
inductive Hold (p : Prop) : Prop
  | mk : p → Hold p
theorem Hold.un {p : Prop} (h : Hold p) : p := by
  cases h with
  | mk h => exact h
theorem holdN {W : Nat → L2.St → Hp → Prop} {m : Nat} : ∀ (σ' : L2.St) (H' : Hp), Hold (∃ m', m' < m ∧ W m' σ' H') → ∃ m', m' < m ∧ W m' σ' H' := fun _ _ h => h.un
theorem ite_dec {c A B : Prop} [Decidable c] (hc : c) (h : A) : if decide c = true then A else B := by
  rw [decide_eq_true hc]
  exact iteT h
def rLenQ (K : PySem.W.Frag) : List V → Hp → VK → Prop := fun xs H Q => ∃ p ys, xs = [.ref p] ∧ (SqL K H p ys ∨ SqT K H p ys) ∧ Q (.int ys.length) H
theorem iteTe {b : Bool} {A B : Prop} (e : b = true) (h : A) : if b = true then A else B := by
  rw [if_pos e]
  exact h
theorem iteFe {b : Bool} {A B : Prop} (e : b = false) (h : B) : if b = true then A else B := by
  rw [e]
  exact iteF h
theorem cmul_b {i : Int} {b : Bool} : CMul i (if b then 1 else 0) := by
  refine .inr ?_
  cases b <;> exact ⟨by decide, by decide⟩
theorem at_ints {ns : List Int} {k : Int} (h0 : 0 ≤ k) (h : k < (ns.length : Int)) : ∃ c, c ∈ ns ∧ atI (ns.map V.int) k = some (.int c) := by
  have hk : k.toNat < ns.length := by omega
  refine ⟨ns[k.toNat], List.getElem_mem hk, at_of (j := k.toNat) (by omega) ?_⟩
  rw [List.getElem?_map, List.getElem?_eq_getElem hk]
  rfl
theorem at_some {xs : List V} {k : Int} (h0 : 0 ≤ k) (h : k < (xs.length : Int)) : ∃ v, v ∈ xs ∧ atI xs k = some v := by
  have hk : k.toNat < xs.length := by omega
  exact ⟨xs[k.toNat], List.getElem_mem hk, at_of (j := k.toNat) (by omega) (List.getElem?_eq_getElem hk)⟩
theorem int_mem {ns : List Int} {v : V} (h : v ∈ ns.map V.int) : ∃ c, c ∈ ns ∧ v = .int c := by
  obtain ⟨c, hc, e⟩ := List.mem_map.mp h
  exact ⟨c, hc, e.symm⟩
structure Blt (mg : Str → Option Value) : Prop where
  b_ValueError : mg "ValueError" = none
  b_abs : mg "abs" = none
  b_all : mg "all" = none
  b_bool : mg "bool" = none
  b_enumerate : mg "enumerate" = none
  b_int : mg "int" = none
  b_isinstance : mg "isinstance" = none
  b_len : mg "len" = none
  b_list : mg "list" = none
  b_str : mg "str" = none
  b_tuple : mg "tuple" = none
  b_zip : mg "zip" = none
/-! ### sorted(set(xs)), xs a list of few ints -/
section
open PySem.Spec PyProof.Rows PySem.Calls
abbrev bareSet (w : World) : Obj := { cls := .type "set", dict := none, data := .set #[] 0 (.fresh 0 0 (!w.params.followText "set-order")) }
/-- what set(xs) leaves behind -/
def SetLeft (w : World) (s : Shared) (ns : List Int) (h' : Heap) (c : Nat) : Prop := SetR w h' s.heap.objs.size (fun j => decide (j ∈ ns)) c ∧ c ≤ ns.length ∧ ∀ b o, s.heap.get? b = some o → h'.get? b = some o
variable {P : Program} {w : World} {A : Around} {E : Value → Shared → Prop} {s : Shared}
theorem items_ints {items : Array Value} {ns : List Int} (hi : IntsAre items.toList ns) (i : Nat) (v : Value) (hv : items[i]? = some v) : ∃ k t, ns[i]? = some k ∧ v = .int k t := by
  have hl : items.size = ns.length := by
    rw [← Array.length_toList]
    exact hi.length
  have hlt : i < ns.length := by
    rw [← hl]
    exact (Array.getElem?_eq_some_iff.mp hv).1
  obtain ⟨t, e⟩ := hi.int_at i v (by rw [Array.getElem?_toList]; exact hv)
  refine ⟨ns[i], t, List.getElem?_eq_getElem hlt, e.trans ?_⟩
  rw [List.getD_eq_getElem?_getD, List.getElem?_eq_getElem hlt]
  rfl
set_option maxHeartbeats 3200000 in
theorem set_of_list {l : Addr} {items : Array Value} {ns : List Int} {Q : Value → Shared → Prop} (hh : A.handled = none) (hl : s.heap.IsList l items) (hi : IntsAre items.toList ns) (hb : ns.length + 1 < scanBound)
    (h : ∀ (h' : Heap) (tk c : Nat), SetLeft w s ns h' c → Q (.ref s.heap.objs.size) { s with heap := h', toks := tk }) : wpAny (model P w) A (call (.type "set") [.ref l]) Q E s := by
  have hsz : items.size = ns.length := by
    rw [← Array.length_toList]
    exact hi.length
  obtain ⟨mc, mt, hmro⟩ := F.called_set.mro
  have a1 := F.called_set.made; have a2 := F.called_set.sub; have a3 := F.called_set.notType; have a4 := F.called_set.canCreate; have a5 := F.typeCall_set_1 (.ref l)
  refine wpAny_call (codeAny_of_tree (show wpAny _ _ (callAny (.type "set") _) _ _ _ from wpAny_pure ⟨Code.quiet_builtin _ (by decide +kernel), codeAny_builtin F.entry_type_call ?_⟩))
  rw [Around.under_plain (weight_type_call_type "set" [.ref l] []) rfl]; repeat (any_goals (first | assumption | wp_step))
  refine codeAny_mono (code_set_led1 (.ref l) (E := E) (Q₁ := fun v s' => v = .ref s.heap.objs.size ∧ s' = { s with heap := s.heap.push (bareSet w) }) ⟨rfl, rfl⟩) fun res s1 hres => ?_
  match res, hres with
  | .error e, hres => exact hres
  | .ok .next, hres => exact hres.elim
  | .ok .cont, hres => exact hres.elim
  | .ok .brk, hres => exact hres.elim
  | .ok (.ret v), hres =>
    obtain ⟨rfl, rfl⟩ := hres
    have g0 : (s.heap.push (bareSet w)).get? s.heap.objs.size = some (bareSet w) := Heap.get?_push_size _ rfl
    have ty0 : Shared.TypeIs { s with heap := s.heap.push (bareSet w) } (.ref s.heap.objs.size) "set" := ⟨_, g0, rfl⟩
    have i1 := F.called_set.init.lookup; have i2 := F.called_set.init.bind (.ref s.heap.objs.size)
    repeat (any_goals (first | assumption | wp_step))
    refine codeAny_mono (codeAny_call_builtin (R := wants (fun v s' => v = .none ∧ ∃ h' tk c, s' = { s with heap := h', toks := tk } ∧ SetLeft w s ns h' c) E) F.called_set.init.plain F.entry_set_init (check_set_init_1 ty0 ?_)) fun res2 s2 hres2 => ?_
    · obtain ⟨⟨lc, ld, la, ls⟩, hol, hcl, nl, hdl⟩ := hl
      simp only at hcl hdl; subst hcl; subst hdl
      have hol1 := Heap.get?_push_of_some (bareSet w) hol
      have hL1 : (s.heap.push (bareSet w)).IsList l items := ⟨_, hol1, rfl, nl, rfl⟩
      have n1 := F.sub_list_set; have n2 := F.sub_list_frozenset; have n3 : (Value.type "list" == Value.type "dict") = false := by decide
      unfold Builtin.«set.__init__» noKeywords Builtin.Frozenset.updateFrom; generalize hgo : pyIter = go; wp_walk; subst hgo
      refine wpAny_pyIter_list hL1 (wpAny_bind (wpAny_runValue ?_))
      have ll := Heap.lt_size hol
      have hhd : A.in1.in1.in1.handled = none := by simp [hh]
      have sz1 : (s.heap.push (bareSet w)).objs.size = s.heap.objs.size + 1 := Heap.size_push ..
      have off : l ≠ (s.heap.push (bareSet w)).objs.size := by rw [sz1]; exact Nat.ne_of_lt (Nat.lt_succ_of_lt ll)
      have out : s.heap.objs.size ∉ [(s.heap.push (bareSet w)).objs.size, l] := by
        intro z
        rcases List.mem_cons.mp z with z | z
        · rw [sz1] at z
          exact absurd z (Nat.ne_of_lt (Nat.lt_succ_self _))
        · exact absurd (List.mem_singleton.mp z) (Nat.ne_of_gt ll)
      refine set_update_ints ((Walks.list hhd _ l off items).toS) s.heap.objs.size out ns hsz hb (items_ints hi) (items.size - 0) 0 _ (by omega) (Nat.zero_le _) ⟨⟨_, Heap.get?_push_size _ rfl, rfl, rfl⟩, hL1.push _⟩ ⟨0, Nat.le_refl 0, setR_new_at (Heap.get?_push_of_some _ g0)⟩ ?_
      rintro ⟨h', g', d', tk', os'⟩ c' hm hc' hS'
      obtain ⟨e1, e2, e3⟩ := (show g' = s.gens ∧ d' = s.drawn ∧ os' = s.os from ⟨hm.gens, hm.drawn, hm.os⟩)
      subst e1; subst e2; subst e3
      refine wpAny_pure (show wpAny _ _ (ret Value.none) _ _ _ from wpAny_pure ⟨rfl, h', tk', c', rfl, hS', by omega, fun b o e => ?_⟩)
      have lb := Heap.lt_size e
      refine hm.heap b o ?_ (Heap.get?_push_of_some _ (Heap.get?_push_of_some _ e))
      intro z
      rcases List.mem_cons.mp z with z | z
      · exact absurd z (Nat.ne_of_lt lb)
      · have z2 := List.mem_singleton.mp z
        rw [sz1] at z2
        exact absurd z2 (Nat.ne_of_lt (Nat.lt_succ_of_lt lb))
    · match res2, hres2 with
      | .error e, hres2 => exact hres2
      | .ok .next, hres2 => exact hres2.elim
      | .ok .cont, hres2 => exact hres2.elim
      | .ok .brk, hres2 => exact hres2.elim
      | .ok (.ret v2), hres2 =>
        obtain ⟨rfl, h', tk, c', rfl, hS'⟩ := hres2
        repeat (any_goals (first | assumption | wp_step))
        exact h _ _ _ hS'
end
open PySem.Spec PyProof.Rows in
/-- sorted of a set of ints, however many -/
theorem set_sorted {P : Program} {w : World} {A : Around} {E : Value → Shared → Prop} {s : Shared} {a : Addr} {S : Int → Bool} {n : Nat} {Q : Value → Shared → Prop} (R : SetR w s.heap a S n) (hh : A.handled = none)
    (q : ∀ s' p (out : List Value) (c : Nat) (ms : List Int), (∀ b o, s.heap.get? b = some o → s'.heap.get? b = some o) → s'.gens = s.gens → s'.os = s.os → s.heap.objs.size ≤ p →
      s'.heap.get? p = some (seqObj "list" out.toArray c) → IntsAre out ms → ms.Pairwise (· < ·) → (∀ k, k ∈ ms ↔ S k = true) → ms.length = n → Q (.ref p) s') : wpAny (model P w) A (call (.builtin "sorted") [.ref a]) Q E s := by
  obtain ⟨o, es, ep, t, g1, g2, g3, good, nod, mem, g4, g5, g6, g7, g8⟩ := R
  refine Calls.call_function_entry kind_sorted plain_sorted entry_sorted (args_sorted1 _) ?_; unfold Builtin.«sorted»
  refine wpAny_bind (m := checkCount "sorted" 1 1 _) (wpAny_pure (wpAny_bind (collect_set (A := A.in1) hh ⟨o, g1, g2.1, g3⟩ g5 g4 g7 g8 fun s1 vs k1 z1 e1 e2 pm => ?_)))
  have len : vs.length = n := by
    rw [pm.length_eq, List.length_map, Array.length_toList]
    exact g6
  have ivs : ∀ e ∈ es.toList, SrtO.iv e.2 = keyOf e := fun e he => by
    obtain ⟨k, tk, h1, _⟩ := good e he
    unfold keyOf
    rw [h1]
    rfl
  have hI : IntsAre vs (vs.map SrtO.iv) := SrtO.ints_iv fun v hv => by
    obtain ⟨e, he, ev⟩ := List.mem_map.mp (pm.mem_iff.mp hv)
    obtain ⟨k, tk, h1, _⟩ := good e he
    exact ⟨k, tk, ev.symm.trans h1⟩
  have prm : (vs.map SrtO.iv).Perm (es.toList.map keyOf) := by
    refine (pm.map SrtO.iv).trans ?_
    rw [List.map_map]
    exact List.Perm.of_eq (List.map_congr_left ivs)
  have zn : n ≤ sizeLine := by
    unfold scanBound at g4
    exact szl (by omega)
  refine wpAny_bind (wpAny_newList ?_ (by rw [len]; exact zn))
  have at1 : (s1.heap.push (seqObj "list" vs.toArray 0)).get? s1.heap.objs.size = some (seqObj "list" vs.toArray 0) := Heap.get?_push_size _ rfl
  refine wpAny_bind (wpAny_holding (wpAny_call_entry slot_list_sort ⟨_, at1, rfl⟩ entry_list_sort (SrtO.list_sort_ord SrtO.swo_int at1 (by rw [len]; exact zn) (fun two => SrtO.ints_sortable hI two) fun out o1 o2 => ⟨_, rfl, ?_⟩) (args_list_sort _)))
  obtain ⟨j1, j2, j3⟩ := SrtO.ints_out hI o1 o2
  obtain ⟨c, at2⟩ := sortedHeap_at (vs := vs) (out := out.toArray) at1
  have prm2 := j2.trans prm
  refine wpAny_pure ⟨_, rfl, q _ s1.heap.objs.size out c _ (fun b u e => ?_) e1 e2 z1 at2 j1 (lt_of_le_nodup _ j3 (prm2.nodup_iff.mpr nod)) (fun k => by rw [prm2.mem_iff, ← mem k]) (by rw [prm2.length_eq, List.length_map, Array.length_toList]; exact g6)⟩
  have e3 := k1 b u e
  have l3 := Heap.lt_size e3
  exact (sortedHeap_old (vs := vs) (out := out.toArray) (Nat.ne_of_lt l3) (by rw [size_push']; exact Nat.lt_succ_of_lt l3)).trans (Heap.get?_push_of_some _ e3)
def tSortSet (K : PySem.W.Frag) (ta : TE) : TE := fun σ H Q => ta σ H fun x H1 => ∃ (l : Addr) (ns : List Int), x = .ref l ∧ SqL K H1 l (ns.map V.int) ∧ ns.length ≤ 4000 ∧
  ∀ (out : List Int) (p : Addr), H1 p = none → out.Pairwise (· < ·) → (∀ k, k ∈ out ↔ k ∈ ns) → out.length ≤ ns.length → Q (.ref p) (upd H1 p (.lst (out.map V.int)))
open PySem.Spec PyProof.Rows in
theorem pe_sortSet {X : Cx} {a : Expr} {ta : TE} {p p2 q pos : Pos} (hg : Gl X "sorted") (hm : X.mg "sorted" = none) (hg2 : Gl X "set") (hm2 : X.mg "set" = none) (ha : PE X a ta) (hc : X.calm = true := by rfl)
    (na : starEach [a] X.env = (false, eval a X.env) :: starEach [] X.env := by rfl) : PE X (.Call (.Name "sorted" p) [.Call (.Name "set" p2) [a] [] q] [] pos) (tSortSet X.K ta) := by
  refine ⟨fun pins s σ H Q I h => ?_⟩
  refine Call_ (ld_blt I hg hm boot_sorted (callWith_builtin1 (args_cons (Call_ (ld_blt I hg2 hm2 boot_set (callWith_type1 (args_cons (thn (ha.run pins s σ H _ I h) fun v s1 ⟨x, H1, I1, r1, q1⟩ => args_nil ?_) na) na rfl))) rfl) rfl rfl))
  obtain ⟨l, ns, rfl, hq, hn, q1⟩ := q1
  cases r1
  obtain ⟨its, r, pl, hz⟩ := I1.list hq
  have hd := I1.ok.hd hc
  refine set_of_list hd pl.isList (by simpa using ints_of_vals r) (by unfold scanBound; omega) fun h' tk c hL => args_nil ?_
  obtain ⟨R1, hcn, kept⟩ := hL
  refine set_sorted (s := { s1 with heap := h', toks := tk }) R1 hd fun s' pp out cc ms k g o hp hgt hi hs hmem hlen => ?_
  have kk : ∀ b u, s1.heap.get? b = some u → s'.heap.get? b = some u := fun b u e => k b u (kept b u e)
  have hpp : s1.heap.objs.size ≤ pp := Nat.le_trans (Nat.le_of_lt R1.lt) hp
  have fr : H1 pp = none := I1.hok.fresh hpp
  have sl : (ms.map V.int).length ≤ sizeLine := by
    rw [List.length_map, hlen]
    exact szl (by omega)
  have hos : s'.os = s1.os := o
  have J : Inv X pins σ (upd H1 pp (.lst (ms.map V.int))) { s1 with heap := s'.heap, gens := s'.gens, drawn := s'.drawn, toks := s'.toks } :=
    I1.call (ch := []) (Un.laid kk hpp fr) (I1.hok.laid kk hpp ⟨sl, out, cc, vals_of_ints hi, hgt⟩) (by rw [g]; exact I1.bare) (fun _ z => nomatch z)
  have es : s' = { s1 with heap := s'.heap, gens := s'.gens, drawn := s'.drawn, toks := s'.toks } := by
    obtain ⟨b1, b2, b3, b4, b5⟩ := s'
    simp only at hos
    subst hos
    rfl
  rw [es]
  exact ⟨.ref pp, _, J, rfl, q1 ms pp fr hs (fun j => (hmem j).trans decide_eq_true_iff) (by omega)⟩
local macro_rules | `(tactic| walk_at "ev1") => `(tactic| first
  | with_reducible assumption
  | ((with_reducible show _ = _); exact rfl)
  | ((first | with_reducible show (_ : Int) = _ | with_reducible show (_ : Int) < _ | with_reducible show (_ : Int) ≤ _ | with_reducible show (_ : Nat) < _ | with_reducible show (_ : Nat) ≤ _); first | omega | decide | (simp only [pw6, pw9]; omega) | (simp only [List.length_cons, List.length_nil, List.length_append, List.length_map, List.length_replicate]; omega))
  | assumption
  | exact upd_same
  | exact SqL.of upd_same
  | exact Or.inl (SqL.of upd_same)
  | exact Or.inl (by assumption)
  | exact Or.inr (by assumption)
  | omega
  | exact (show CDiv _ _ from ⟨by omega, by omega⟩)
  | exact (show CPow _ _ from ⟨by omega, by omega, by omega⟩)
  | exact (show CMul _ _ from .inl ⟨by omega, by omega⟩)
  | exact (show CMul _ _ from .inr ⟨by omega, by omega⟩)
  | exact (show CMul _ _ from cmul_b)
  | exact (show CDivW _ _ from wide_div (b := 31) (by omega) (by omega) (by decide) (by decide))
  | exact (Or.inl ⟨rfl, _, SqL.of (by assumption)⟩)
  | exact ClsV.ty _
  | exact .cons (.ty _) (.cons (.ty _) .nil)
  | (refine szl ?_; simp only [List.length_cons, List.length_nil, List.length_append, List.length_map, List.length_replicate]; omega)
  | (refine szm ?_; simp only [List.length_cons, List.length_nil, List.length_append, List.length_map, List.length_replicate]; omega))
local macro_rules | `(tactic| walk_at "s") => `(tactic| (first
  | (refine And.intro ?l ?_; (case l => walk_at "ev1"))
  | with_reducible refine iteT ?_
  | with_reducible refine iteF ?_
  | with_reducible refine ite_dec rfl ?_
  | with_reducible refine iteNS rfl ?_
  | with_reducible refine iteNS (by assumption) ?_
  | (apply Or.inl; apply Exists.intro; apply And.intro rfl)
  | (apply Or.inr; apply Exists.intro; apply And.intro rfl)
  | ((fail_if_success (refine @Exists.intro (Nat → Nat → L2.St → Hp → Prop) _ ?_ ?_)); (fail_if_success (refine @Exists.intro (Nat → L2.St → Hp → Prop) _ ?_ ?_)); (fail_if_success (refine @Exists.intro (L2.St → Hp → Prop) _ ?_ ?_)); (fail_if_success (refine @Exists.intro (Hp → Prop) _ ?_ ?_)); (fail_if_success (refine @Exists.intro (Nat → Nat → Hp → Prop) _ ?_ ?_)); apply Exists.intro)))
local macro_rules | `(tactic| walk_at "ev") => `(tactic| repeat (walk_at "s"))
local macro_rules | `(tactic| w_cond $i:ident) => do
  let b := (i.getId.toString.drop 1).toString
  let l := Lean.mkIdent (.mkSimple ("l" ++ b))
  let hl := Lean.mkIdent (.mkSimple ("hl" ++ b))
  let h := Lean.mkIdent (.mkSimple ("H" ++ b))
  let sm := Lean.mkIdent (.mkSimple ("sm" ++ b))
  let hq := Lean.mkIdent (.mkSimple ("hq" ++ b))
  `(tactic| (intro $l:ident $hl:ident; generalize hG : upd _ $l:ident _ = $h:ident; obtain ⟨$sm:ident, $hq:ident⟩ := newO hG $hl:ident; clear hG))
/-! ### a caught exception that a name keeps behind its clause -/
/-- at a: an exception of the class at C, its dict at d -/
def XOb (C d a : Addr) : HO := .ext fun h => ∃ (ob : Obj) (fl : Array Value), h.get? a = some ob ∧ Zc (.ref C) (some d) ob ∧ ob.data = .fields fl
theorem xob_ok {P : Program} {w : World} {H : Hp} {h : Heap} {C d a : Addr} {ob : Obj} {fl : Array Value} (q1 : h.get? a = some ob) (q2 : Zc (.ref C) (some d) ob) (q3 : ob.data = .fields fl) : ObjOk P w H h a (XOb C d a) :=
  ⟨⟨ob, fl, q1, q2, q3⟩, ⟨ob, q1⟩, fun _ _ ⟨u, v, r1, r2⟩ k => ⟨u, v, k u r1, r2⟩⟩
/-- an object of the heap that nobody tracks is tracked from now on -/
theorem track {X : Cx} {pins : List (Addr × Obj)} {σ : L2.St} {H : Hp} {s : Shared} {a : Addr} {o : HO} (I : Inv X pins σ H s) (n0 : X.s_0.heap.get? a = none) (hn : H a = none) (nL : a ≠ X.env.locals) (nC : ∀ x c, X.env.cells.lookup x = some c → c ≠ a)
    (nP : ∀ p ∈ X.pn ++ pins, p.1 ≠ a) (new : ObjOk X.prog X.w (upd H a o) s.heap a o) : Inv X pins σ (upd H a o) s := by
  have ne : ∀ {b : Addr} {u : HO}, H b = some u → b ≠ a := fun e => ne_of_none e hn
  refine ⟨I.ok, I.os, I.bare, ⟨I.base.keep, I.base.slot, fun b u e n hx => ?_, I.base.there, fun b xs e => ?_, fun b u v e => ?_, fun b ps e => ?_⟩, I.loc, I.cell, ?_, fun x c e => ?_, fun p hp => ?_, I.hok.laidN (fun _ _ z => z) hn new, I.len⟩
  · have : b ≠ a := fun z => by
      rw [z, n0] at e
      cases e
    rw [upd_ne this]
    exact I.base.free b u e n hx
  · have q := I.base.tups b xs e
    rw [upd_ne (ne q)]
    exact q
  · have q := I.base.frzs b u v e
    rw [upd_ne (ne q)]
    exact q
  · obtain ⟨m, q⟩ := I.base.tbls b ps e
    exact ⟨m, by rw [upd_ne (ne q)]; exact q⟩
  · rw [upd_ne nL.symm]
    exact I.free
  · rw [upd_ne (nC x c e)]
    exact I.freeC x c e
  · obtain ⟨e, n, r⟩ := I.pin p hp
    exact ⟨e, by rw [upd_ne (nP p hp)]; exact n, r⟩
/-- what 'except x as n: ..' wishes, the exception tracked behind it -/
def wKeep (K : PySem.W.Frag) (c : Value) (i : Nat) (ts : Addr → TS) (Wout : WX) (D : Ends) : WX := fun cls d σ H =>
  ∃ b, PySem.W.exmOne K cls c = some b ∧ (b = true → ∃ C dd, cls = .ref C ∧ d = some dd ∧ ∀ a, H a = none →
    ts a { nx := fun σ2 H2 => D.nx (σ2.set i none) (upd H2 a (XOb C dd a)), rt := fun _ _ => False, bk := fun _ _ => False, ct := fun _ _ => False } (σ.set i (some (.ref a))) H) ∧ (b = false → Wout cls d σ H)
section
variable {X : Cx} {x n : Str} {c : Value} {i : Nat} {body suite : List Stmt} {b₀ : Stmt} {np pos pos' : Pos} {tb : WX → TS} {ts : Addr → TS} {Wout : WX}
theorem ps_try_keep (hs : X.stack = X.env :: X.outer) (hf : X.env.frame = some X.env.locals) (hex : X.ex = []) (hN : X.N.Nodup) (hi : X.N[i]? = some n) (hln : X.env.kindOf n = some .local) (hc : Names X x c) (tk : Takes X Wout)
    (hb : ∀ (W : WX) (pn : List (Addr × Obj)) (xe : Value → Shared → Prop), Takes (X.tr pn xe) W → PassesOwn (model X.prog X.w) X.A X.env xe → PSs (X.tr pn xe) body (tb W))
    (hsu : ∀ (a : Addr) (pn : List (Addr × Obj)), PSs (X.suite a pn) (b₀ :: suite) (ts a)) :
    PS X (.Try body [.ExceptHandler (some (.Name x np)) (some n) (b₀ :: suite) pos'] [] [] pos) (fun D σ H => tb (wKeep X.K c i ts Wout D) D σ H) := by
  refine ⟨fun pins s σ H D I h => ?_⟩
  have ok := I.ok
  have fr : X.A.frames = some (X.env :: X.outer) := ok.frames.trans (congrArg some hs)
  refine wpAny_Try_except (wpAny_mono ((hb (wKeep X.K c i ts Wout D) (X.pn ++ pins) (fun e s1 => wpAny (model X.prog X.w) X.A (noteFrame e X.env)
    (fun _ s2 => wpAny (model X.prog X.w) X.A (setFlight e none) (fun _ s3 => wpAny (model X.prog X.w) X.A (handleBy e X.env [.ExceptHandler (some (.Name x np)) (some n) (b₀ :: suite) pos']) (SP X pins D) X.xe s3) X.xe s2) X.xe s1)
    (fun u s1 fly => ?_) PassesOwn.looking).run [] s σ H D (I.toTry _) h) (fun f s1 q => ?_) (fun _ _ z => z))
  · obtain ⟨a, B, s0, pins1, σ1, H1, cls, d, rfl, J0, nb, up, sky, na, os, ag, b, hm, yes, no⟩ := fly
    have J : Inv X pins σ1 H1 s0 := J0.ofTry ok
    have sky1 : Sky B (X.env :: X.outer) a (Zc cls d) X.env.locals s1.heap := hs ▸ sky
    show wpAny (model X.prog X.w) X.A (noteFrame (.ref a) X.env) _ _ _
    refine Sky.land Zc.steady fr hf sky1 fun g3 fly3 up3 => ?_
    have J3 : Inv X pins σ1 H1 { s1 with heap := g3 } := J.landed nb fly3.1 (up.trans up3) os ag
    obtain ⟨o3, f3, e3, z3, d3⟩ := fly3.there
    have away : a ∉ frs (X.env :: X.outer) := fun hmem => by
      obtain ⟨_, o', e', hnf⟩ := fly3.2.2.1.mem hmem
      cases e3.symm.trans e'
      exact hnf _ d3
    have nL : a ≠ X.env.locals := fun z => away (List.mem_filterMap.mpr ⟨X.env, List.mem_cons_self, hf.trans (congrArg some z.symm)⟩)
    have nF : a ∉ X.fs := fun hmem => by
      obtain ⟨e, he, q⟩ := List.mem_filterMap.mp hmem
      exact away (List.mem_filterMap.mpr ⟨e, List.mem_cons_of_mem _ he, q⟩)
    have nB : B.get? a = none := fly3.2.1
    have n0 : X.s_0.heap.get? a = none := by
      cases e : X.s_0.heap.get? a with
      | none => rfl
      | some o =>
        obtain ⟨o', q⟩ := J.base.there a o e (by rw [hex]; exact fun z => nomatch z)
        have q2 := nb a o' q (by rw [hs]; exact away)
        rw [nB] at q2
        cases q2
    have nP : ∀ p ∈ X.pn ++ pins, p.1 ≠ a := fun p hp z => by
      obtain ⟨q, _⟩ := J.pin p hp
      have q2 := nb p.1 p.2 q (by rw [hs, z]; exact away)
      rw [z, nB] at q2
      cases q2
    have S3 := J3.suite e3 d3 na nL nF
    have lt : PySem.W.Looks (model X.prog X.w) g3 (typeOf (.ref a)) cls := fun A Q E s k q => wpAny_typeOf_ref (k _ _ e3) (by rw [z3.1]; exact q)
    have lm := PySem.W.exm_one (M := model X.prog X.w) J3.kIn lt hm
    refine wpAny_handleBy_cons (codeAny_handlers_test ?_) (fun q => nomatch q)
    have named : ∀ {Q E : Value → Shared → Prop}, Q c { s1 with heap := g3 } → wpAny (model X.prog X.w) (X.A.mark (some (.ref a))) (eval (.Name x np) X.env) Q E { s1 with heap := g3 } := fun {Q E} q => by
      rcases hc with ⟨hg, hdb, hm1 | ⟨hm1, hv, hnn⟩⟩
      · exact ld_glob (X := X.suite a ((a, o3) :: (X.pn ++ pins))) S3 hg hm1 q hdb
      · exact ld_blt (X := X.suite a ((a, o3) :: (X.pn ++ pins))) S3 hg hm1 hv q hnn hdb
    refine named (lm.here ?_)
    cases b with
    | true =>
      obtain ⟨C, dd, ec, ed, yes⟩ := yes rfl
      refine codeAny_handlers_suite_as (HandSPX.lands_againZ fly3 fun g4 fly4 up4 => ?_)
      have J4 : Inv X pins σ1 H1 { s1 with heap := g4 } := J.landed nb fly4.1 ((up.trans up3).trans up4) os ag
      obtain ⟨o4, f4, e4, z4, d4⟩ := fly4.there
      refine store_ok (X := X.suite a ((a, o4) :: (X.pn ++ pins))) (v := .ref a) (J4.suite e4 d4 na nL nF) hN hi (.inl hln) rfl (fun s5 S5 => ?_) (.inr hln)
      refine wpAny_mono ((hsu a ((a, o4) :: (X.pn ++ pins))).run [] s5 _ H1 _ S5 (yes a na)) (fun f s6 q6 => ?_) (fun _ _ z => z.elim)
      cases f with
      | next =>
        obtain ⟨σ6, H6, S6, q6⟩ := q6
        refine gone_ok (X := X.suite a ((a, o4) :: (X.pn ++ pins))) (pins := []) S6 hN hi hln fun s7 S7 => ?_
        obtain ⟨e7, n7, _⟩ := S7.pin (a, o4) (List.mem_append_left _ List.mem_cons_self)
        refine ⟨_, _, track (S7.unsuite ok) n0 n7 nL (fun y c' ey z => ?_) nP (xob_ok (C := C) (d := dd) e7 (by rw [← ec, ← ed]; exact z4) d4), q6⟩
        obtain ⟨v, ob, q1, q2⟩ := S7.cell y c' ey
        subst z
        cases e7.symm.trans q1
        cases d4.symm.trans q2
      | brk =>
        obtain ⟨_, _, _, q6⟩ := q6
        exact q6.elim
      | cont =>
        obtain ⟨_, _, _, q6⟩ := q6
        exact q6.elim
      | ret u =>
        obtain ⟨_, _, _, _, _, q6⟩ := q6
        exact q6.elim
    | false =>
      show wpAny _ X.A (handleBy (.ref a) X.env []) _ _ _
      refine wpAny_handleBy_nil ?_
      obtain ⟨k1, k2, k3, ob, fl, T, oT, tl, he, hz, hd, h1, hr⟩ := id fly3
      unfold PySem.passOn
      refine wpAny_bind (wpAny_field he hd h1 ?_)
      rw [if_neg (show ¬ ((Value.ref T == Value.none) = true) from by simp)]
      have fin : wpAny (model X.prog X.w) X.A (setFlight (.ref a) X.env.frame) (fun _ s4 => wpAny (model X.prog X.w) X.A (throw (.ref a) : Sem Flow) (SP X pins D) X.xe s4) X.xe { s1 with heap := g3 } := by
        rw [hf]
        exact HandSPX.setFlight_upZ fly3 fun g4 held4 up4 => wpAny_throw (tk _ _ ⟨a, B, s0, pins, σ1, H1, cls, d, rfl, J, nb, (up.trans up3).trans up4, .inr (.inr (hs ▸ held4)), na, os, ag, no rfl⟩)
      first
        | exact wpAny_bind (wpAny_pure (wpAny_bind fin))
        | exact wpAny_bind fin
  · cases f with
    | next =>
      obtain ⟨σ1, H1, J, q⟩ := q
      exact wpAny_execs_nil ⟨σ1, H1, J.ofTry ok, q⟩
    | brk =>
      obtain ⟨σ1, H1, J, q⟩ := q
      exact ⟨σ1, H1, J.ofTry ok, q⟩
    | cont =>
      obtain ⟨σ1, H1, J, q⟩ := q
      exact ⟨σ1, H1, J.ofTry ok, q⟩
    | ret u =>
      obtain ⟨v, σ1, H1, J, r, q⟩ := q
      exact ⟨v, σ1, H1, J.ofTry ok, r, q⟩
end
/-- what is told of an own exception class -/
structure ExK (K : PySem.W.Frag) (C : Addr) : Prop where
  oex : OexC K C
  xf : XfC K C
  ec : ExcC K C
  nw : PySem.W.findIn K (.ref C) "what" = some none
/-- an exception object, tracked, with its fields -/
def XAt (H : Hp) (a C : Addr) (fs : List (Str × V)) : Prop := ∃ d, H a = some (XOb C d a) ∧ H d = some (.xd fs)
theorem XAt.same {H H' : Hp} {a C : Addr} {fs : List (Str × V)} (h : XAt H a C fs) (e : Same H H') : XAt H' a C fs := by
  obtain ⟨d, h1, h2⟩ := h
  exact ⟨d, e _ _ h1, e _ _ h2⟩
theorem xat_inst {X : Cx} {pins : List (Addr × Obj)} {σ : L2.St} {H : Hp} {s : Shared} {a C : Addr} {fs : List (Str × V)} (I : Inv X pins σ H s) (h : XAt H a C fs) : ∃ (ob od : Obj) (mA : Str → Option Value), PySem.W.InstAt s.heap a ob C (some od) ∧ (∀ name, PySem.W.lookIn name od = some (mA name)) ∧ ∀ f, RelO (fs.lookup f) (mA f) := by
  obtain ⟨d, h1, h2⟩ := h
  obtain ⟨⟨ob, fl, q1, q2, q3⟩, _, _⟩ := (show ObjOk X.prog X.w H s.heap a (XOb C d a) from I.hok a _ h1)
  obtain ⟨mA, hns, hr⟩ := (show ObjOk X.prog X.w H s.heap d (.xd fs) from I.hok d _ h2)
  obtain ⟨od, ho, hl⟩ := lookIn_ns hns
  exact ⟨ob, od, mA, ⟨q1, q2.1, by unfold PySem.W.notCls; rw [q3] <;> rfl, by rw [q2.2]; exact ho⟩, hl, hr⟩
/-- isinstance(e, c), e tracked -/
def rIsX (K : PySem.W.Frag) : List V → Hp → VK → Prop := fun xs H Q => ∃ (a C : Addr) (fs : List (Str × V)) (c : V) (cv : Value) (b : Bool), xs = [.ref a, c] ∧ XAt H a C fs ∧ ExK K C ∧ ClsV c cv ∧ PySem.W.kitOne K (.ref C) cv = some b ∧ Q (.bl b) H
def rIsXT (K : PySem.W.Frag) : List V → Hp → VK → Prop := fun xs H Q => ∃ (a C tp : Addr) (fs : List (Str × V)) (cs : List V) (us : List Value) (b : Bool), xs = [.ref a, .ref tp] ∧ H tp = some (.tup cs) ∧ XAt H a C fs ∧ ExK K C ∧ Paired ClsV cs us ∧ PySem.W.kitAny K (.ref C) us = some b ∧ Q (.bl b) H
theorem kit_x {K : PySem.W.Frag} {a C : Addr} {ob od : Obj} (E : ExK K C) : PySem.W.KitX K (.ref a) (.ref C) (fun h => PySem.W.InstAt h a ob C (some od)) := by
  obtain ⟨cd, hc, _⟩ := PySem.W.any_some E.ec.hd
  exact PySem.W.kitx_exc (by rw [hc]; rfl) E.ec.hg E.ec.hk E.ec.hs E.ec.ha E.ec.hn E.ec.ht E.ec.hm
theorem call_isX {X : Cx} : CallR X (.builtin "isinstance") (rIsX X.K) := by
  intro pins s σ H xs us Q I r h
  obtain ⟨a, C, fs, c, cv, b, rfl, hx, E, k, e, q⟩ := h
  obtain ⟨u1, u2, rfl, r1, r2⟩ := vals2 r
  cases (show u1 = Value.ref a from r1)
  have e2 := k.eq r2
  subst e2
  obtain ⟨ob, od, mA, J, _, _⟩ := xat_inst I hx
  exact PySem.W.kia_one (kit_x E) I.kIn J e (fun z => nomatch z) fun tk => ⟨.bl b, H, I.tok tk, rfl, q⟩
theorem call_isXT {X : Cx} : CallR X (.builtin "isinstance") (rIsXT X.K) := by
  intro pins s σ H xs us Q I r h
  obtain ⟨a, C, tp, fs, cs, ws, b, rfl, hT, hx, E, k, e, q⟩ := h
  obtain ⟨u1, u2, rfl, r1, r2⟩ := vals2 r
  cases (show u1 = Value.ref a from r1)
  cases (show u2 = Value.ref tp from r2)
  obtain ⟨ob, od, mA, J, _, _⟩ := xat_inst I hx
  obtain ⟨_, its, rv, o, h1, h2, n, h3⟩ := (show ObjOk X.prog X.w H s.heap tp (.tup cs) from I.hok tp _ hT)
  have e3 := ClsV.all k rv
  subst e3
  rcases o with ⟨oc, od', dt, sl⟩
  dsimp only at h2 h3
  cases h2
  cases h3
  exact PySem.W.kia_tup (kit_x E) I.kIn J h1 e (fun z => nomatch z) fun tk => ⟨.bl b, H, I.tok tk, rfl, q⟩
/-- e.f, e tracked -/
def tXw (K : PySem.W.Frag) (f : Str) (te : TE) : TE := fun σ H Q => te σ H fun x H1 => ∃ (a C : Addr) (fs : List (Str × V)) (v : V), x = .ref a ∧ XAt H1 a C fs ∧ ExK K C ∧ PySem.W.findIn K (.ref C) f = some none ∧ fs.lookup f = some v ∧ Q v H1
theorem pe_xw {X : Cx} {e : Expr} {te : TE} {pos : Pos} {n : Str} (he : PE X e te) (hb : attributeBase e n X.env (eval e X.env) = eval e X.env := by rfl) : PE X (.Attribute e n pos) (tXw X.K n te) := by
  refine ⟨fun pins s σ H Q I h => attr_of hb (thn (he.run pins s σ H _ I h) fun u s1 hh => ?_)⟩
  obtain ⟨x, H1, I1, rx, a, C, fs, v, ex, hx, E, hno, l, q⟩ := hh
  subst ex
  cases (show u = Value.ref a from rx)
  obtain ⟨ob, od, mA, J, hl, hr⟩ := xat_inst I1 hx
  obtain ⟨u, hu, ru⟩ := RelO.some_of (v := v) (o := mA n) (by rw [← l]; exact hr n)
  exact HandSPX.exc_get I1.kIn J E.xf.ga E.xf.gg E.xf.exC (PySem.W.findObj_own E.xf.hdC hno rfl (by rw [hl, hu])) (handed_of ru) ⟨v, H1, I1.tok _, ru, q⟩
/-! ### methods and classes, what they raise wished for at the caller's slots -/
def tMethS (C : Addr) (m : Str) (sp : Sp) (E : L2.St → XK) (ta : TE) (t : TA) : TE := fun σ H Q => ta σ H fun x H1 => ∃ a dx fs, x = .ref a ∧ H1 a = some (.ins C dx fs) ∧ fs.lookup m = none ∧ t σ H1 fun vs H2 => sp (x :: vs) H2 Q (E σ)
def tMakeS (C : Addr) (sp : Sp) (E : L2.St → XK) (t : TA) : TE := fun σ H Q => t σ H fun vs H1 => ∀ x dx, H1 x = none → H1 dx = none → dx ≠ x → sp (.ref x :: vs) (upd (upd H1 dx (.own x)) x (.ins C dx [])) (fun v H2 => v = .non ∧ Q (.ref x) H2) (E σ)
section
variable {X : Cx} {CX : CXT} {k : Nat} {f C : Addr} {fd : FuncData} {ps : List Str} {sp : Sp} {E : L2.St → XK} {x m : Str} {p pos apos : Pos} {e o : Expr} {es : List Expr} {ta : TE} {t : TA}
theorem pe_methS {pl : Sem Bool} (he : PE X o ta) (c : L2.Cls X.K C) (hm : Meth X.K C m f) (F : FnOk X.prog X.w X.K X.mg X.base CX k f fd ps sp) (hr : Room k X.A) (hb : Binds X.K fd ps []) (hx : ∀ σ, PassesAt CX X σ (E σ)) (ha : PA X (e :: es) t)
    (hst : starEach (e :: es) X.env = (false, eval e X.env) :: starEach es X.env := by rfl) (hpl : (backTo pos (starEach es X.env)).any (·.1) = false := by rfl)
    (ht : eval (.Call (.Attribute o m apos) (e :: es) [] pos) X.env = (do
      let ov ← eval o X.env
      standAt apos.atName
      let (f, first) ← holding [ov] (getMethod ov m pl)
      callWith pos f first (backTo pos (starEach (e :: es) X.env)) (backToKw pos (keywordEach [] X.env))) := by rfl) : PE X (.Call (.Attribute o m apos) (e :: es) [] pos) (tMethS C m sp E ta t) := by
  refine ⟨fun pins s σ H Q I h => PySem.W.methodCall_KW (pl := pl) (thn (he.run pins s σ H _ I h) fun u s1 q1 => ?_) ht⟩
  obtain ⟨y, H1, I1, ry, a, dx, fs, ey, ea, l, q⟩ := q1
  subst ey
  cases (show u = Value.ref a from ry)
  refine getmeth_ok I1 ea c hm l (PySem.W.callWith_K (first := [.ref a]) (h₀ := X.base) I.ok.mod.kin hm.kp (thn (ha.run pos pins s1 σ H1 _ I1 q) fun us s2 q2 => ?_) hst hpl)
  obtain ⟨vs, H2, I2, r, q2⟩ := q2
  exact ⟨I2.kIn, run_fnS (us := .ref a :: us) (vs := .ref a :: vs) F hr hb (hx σ) I2 (.cons rfl r) q2⟩
theorem run_makeS {pins : List (Addr × Obj)} {σ : L2.St} {H : Hp} {s : Shared} {Q : VK} {us : List Value} {vs : List V} (M : Mk X.K C f) (F : FnOk X.prog X.w X.K X.mg X.base CX k f fd ps sp) (hr : Room (k + 1) X.A) (hb : Binds X.K fd ps []) (hx : PassesAt CX X σ (E σ)) (I : Inv X pins σ H s) (r : Vals vs us)
    (h : ∀ y dx, H y = none → H dx = none → dx ≠ y → sp (.ref y :: vs) (upd (upd H dx (.own y)) y (.ins C dx [])) (fun v H2 => v = .non ∧ Q (.ref y) H2) (E σ)) : wpAny (model X.prog X.w) X.A (call (.ref C) us) (EP X pins σ Q) X.xe s := by
  have hq := h (s.heap.objs.size + 1) s.heap.objs.size (I.hok.fresh (Nat.le_succ _)) (I.hok.fresh (Nat.le_refl _)) (Nat.ne_of_lt (Nat.lt_succ_self _))
  have J := Inv.made (C := C) I
  have r2 : Vals (V.ref (s.heap.objs.size + 1) :: vs) (Value.ref (s.heap.objs.size + 1) :: us) := .cons rfl r
  have hl : (Value.ref (s.heap.objs.size + 1) :: us).length = ps.length := r2.length.symm.trans (F.len _ _ _ _ hq)
  have bi := hb _ (Value.ref (s.heap.objs.size + 1) :: us) J.kIn (by rw [List.append_nil]; exact hl)
  rw [List.append_nil] at bi
  refine wpAny_call (make_map (f := f) I.kIn M.makes M.init (beq_iff_eq.mp M.fn) (codeAny_mono (F.run _ X.stack _ _ ⟨_, []⟩ _ _ _ (E σ) (hr.make C us []) (J.env0.make C us []) bi r2 hq) fun rs s1 q1 => ?_))
  cases rs with
  | error er => exact hx pins _ _ er s1 J q1
  | ok fl =>
    cases fl with
    | ret u =>
      obtain ⟨v, H3, I3, rv, ev, q3⟩ := J.after q1
      subst ev
      exact ⟨rv, ⟨V.ref (s.heap.objs.size + 1), H3, I3, rfl, q3⟩⟩
    | next => exact q1.elim
    | brk => exact q1.elim
    | cont => exact q1.elim
theorem pe_makeS (M : Mk X.K C f) (F : FnOk X.prog X.w X.K X.mg X.base CX k f fd ps sp) (hr : Room (k + 1) X.A) (hg : Gl X x) (hm : X.mg x = some (.ref C)) (hb : Binds X.K fd ps []) (hx : ∀ σ, PassesAt CX X σ (E σ)) (ha : PA X (e :: es) t)
    (hdb : (x == ("__debug__" : Str)) = false := by decide) (he : starEach (e :: es) X.env = (false, eval e X.env) :: starEach es X.env := by rfl) (hpl : (backTo pos (starEach es X.env)).any (·.1) = false := by rfl) : PE X (.Call (.Name x p) (e :: es) [] pos) (tMakeS C sp E t) := by
  refine ⟨fun pins s σ H Q I h => wpAny_Call_Name_kw (ld_glob I hg hm (PySem.W.callWith_K (h₀ := X.base) I.ok.mod.kin M.kp (thn (ha.run pos pins s σ H _ I h) fun us s1 q1 => ?_) he hpl) hdb)⟩
  obtain ⟨vs, H1, I1, r, q⟩ := q1
  exact ⟨I1.kIn, run_makeS M F hr hb (hx σ) I1 r q⟩
end
/-! ### the drawing -/
theorem log2_lt60 {t : Int} (h0 : 0 < t) (h : t < 1152921504606846976) : t.natAbs.log2 < 9000 := by
  have h1 : t.natAbs < 2 ^ 60 := by
    have : (2 : Nat) ^ 60 = 1152921504606846976 := by decide
    omega
  exact Nat.lt_trans ((Nat.log2_lt (by omega)).mpr h1) (by decide)
abbrev s__law_take : Stmt := top 23
abbrev N__law_take : List Str := ["_law_box_here", "_law_top", "_law_found", "_law_once"]
abbrev P__law_take : List Str := ["_law_box_here", "_law_top"]
theorem sc__law_take : FnScope N__law_take P__law_take (defScope s__law_take) := ⟨rfl, rfl, rfl, by decide +kernel, rfl, by decide +kernel, by decide +kernel⟩
def spTake : Sp := fun vs H Q _ => ∃ (b : Addr) (top n : Int), vs = [.ref b, .int top] ∧ BoxAt H b n ∧ 0 < top ∧ top < 1152921504606846976 ∧ n < 1048576 ∧ ∀ r H', 0 ≤ r → r < top → Keep b H H' → BoxAt H' b (n + 1) → Q (.int r) H'
section
variable {P : Program} {w : World} {K : PySem.W.Frag} {mg : Str → Option Value} {base : Heap}
theorem ok_take {f : Addr} {fd : FuncData} {k : Nat} (F : Fun K "_law_take" "_law_take" s__law_take f fd) : FnOk P w K mg base CX0 (k + 1) f fd P__law_take spTake := by
  have nd := sc__law_take.nd
  refine F.ok sc__law_take (fun vs H Q E h => ?_) (fun cdv A outer s H vs Q E hr h => ?_)
  · obtain ⟨b, top, n, rfl, _⟩ := h
    rfl
  · obtain ⟨b, top, n, rfl, ⟨x, y, z, hb, hx, hy, hy2, hz, hzn⟩, ht, ht2, hn, q⟩ := h
    refine ⟨_, (pss_cons (ps_if (pt_cmpR op_gt (pe_ix (r := rIxL K) ix_list (pv 0) (pe_int) (fun _ _ => rfl)) (pe_int) (nomark _)) (pss_cons (ps_set (i := 2) nd rfl (Or.inl rfl) (pe_op op_mod (pe_ix (r := rIxL K) ix_list (pv 0) (pe_int) (fun _ _ => rfl)) (pv 1)))
      (pss_cons (ps_asg (pe_op op_fdivW (pe_ix (r := rIxL K) ix_list (pv 0) (pe_int) (fun _ _ => rfl)) (pv 1)) (pg_sub (pv 0) (pe_int) set_list))
      (pss_one (ps_ret (pv 2))))) pss_nil)
      (pss_cons (ps_asg (pe_op op_add (pe_ix (r := rIxL K) ix_list (pv 0) (pe_int) (fun _ _ => rfl)) (pe_int)) (pg_sub (pv 0) (pe_int) set_list))
      (pss_cons (ps_set (i := 3) nd rfl (Or.inl rfl) (pe_op op_mod (pe_op op_pow (pe_op op_add (pe_ix (r := rIxL K) ix_list (pv 0) (pe_int) (fun _ _ => rfl)) (pe_op op_mul (pe_int) (pe_ix (r := rIxL K) ix_list (pv 0) (pe_int) (fun _ _ => rfl)))) (pe_int)) (pe_int)))
      (pss_one (ps_ret (pe_op op_mod (pe_op op_fdivW (pe_op op_mod (pe_op op_add (pe_op op_mul (pv 3) (pe_op op_add (pe_op op_mod (pv 3) (pe_int)) (pe_int))) (pe_op op_mul (pe_ix (r := rIxL K) ix_list (pv 0) (pe_int) (fun _ _ => rfl)) (pe_int))) (pe_int)) (pe_int)) (pv 1))))))), ?_⟩
    have hL : SqL K H b [.int x, .int y, .int z] := SqL.of hb
    have cw : ∀ i : Int, CDivW i top := fun i => ⟨ht, log2_lt60 ht ht2⟩
    have cw6 : ∀ i : Int, CDivW i 64 := fun i => ⟨by decide, by decide⟩
    have cw1 := cw x
    walk_at "ev"
    refine ite2 (fun e => ?_) (fun e => ?_)
    · have e1 : 0 < x := of_decide_eq_true e
      walk_at "ev"
      exact q _ _ (Int.emod_nonneg _ (by omega)) (Int.emod_lt_of_pos _ ht) (keep_upd (Keep.refl _ _)) ⟨_, _, _, upd_same, Int.ediv_nonneg hx (by omega), hy, hy2, hz, by omega⟩
    · walk_at "ev"
      exact q _ _ (Int.emod_nonneg _ (by omega)) (Int.emod_lt_of_pos _ ht) (keep_upd (Keep.refl _ _)) ⟨_, _, _, upd_same, hx, hy, hy2, by omega, by omega⟩
end
abbrev s__law_box : Stmt := top 22
abbrev N__law_box : List Str := ["_law_script", "_law_k", "_law_cell"]
abbrev P__law_box : List Str := ["_law_script", "_law_k"]
theorem sc__law_box : FnScope N__law_box P__law_box (defScope s__law_box) := ⟨rfl, rfl, rfl, by decide +kernel, rfl, by decide +kernel, by decide +kernel⟩
def spBox (K : PySem.W.Frag) : Sp := fun vs H Q _ => ∃ (a : Addr) (ns : List Int) (k : Int), vs = [.ref a, .int k] ∧ SqL K H a (ns.map V.int) ∧ 0 ≤ k ∧ k ≤ 100000 ∧ ∀ p H', H p = none → Same H H' → BoxAt H' p 0 → Q (.ref p) H'
section
variable {P : Program} {w : World} {K : PySem.W.Frag} {mg : Str → Option Value} {base : Heap}
theorem ok_box {f : Addr} {fd : FuncData} {k : Nat} (F : Fun K "_law_box" "_law_box" s__law_box f fd) (T : Blt mg) : FnOk P w K mg base CX0 (k + 1) f fd P__law_box (spBox K) := by
  have nd := sc__law_box.nd
  refine F.ok sc__law_box (fun vs H Q E h => ?_) (fun cdv A outer s H vs Q E hr h => ?_)
  · obtain ⟨b, top, n, rfl, _⟩ := h
    rfl
  · obtain ⟨a, ns, k, rfl, hL, h0, h1, q⟩ := h
    refine ⟨_, (pss_cons (ps_set (i := 2) nd rfl (Or.inl rfl) (pe_int))
      (pss_cons (ps_if (pt_cmpR op_lt (pv 1) (pe_callB (r := rLenQ K) call_len_seq (by rfl) T.b_len (by decide +kernel) (pa_cons (pv 0) pa_nil)) (nomark _)) (pss_one (ps_set (i := 2) nd rfl (Or.inl rfl) (pe_ix (r := rIxL K) ix_list (pv 0) (pv 1) (fun _ _ => rfl)))) pss_nil)
      (pss_one (ps_ret (pe_lst (pa_cons (pe_op op_mul (pe_callB call_abs (by rfl) T.b_abs (by decide +kernel) (pa_cons (pv 2) pa_nil)) (pe_callTy call_int1 (by rfl) T.b_int (by decide +kernel) (pa_cons (pe_cmpR op_ge (pe_callB call_abs (by rfl) T.b_abs (by decide +kernel) (pa_cons (pv 2) pa_nil)) (pe_op op_pow (pe_int) (pe_int)) (nomark _)) pa_nil))) (pa_cons (pe_op op_add (pe_op op_add (pe_op op_mod (pv 2) (pe_int)) (pe_op op_mul (pe_int) (pv 1))) (pe_int)) (pa_cons (pe_int) pa_nil)))))))), ?_⟩
    have fin : ∀ c : Int, ∀ p, H p = none → Q (.ref p) (upd H p (.lst [.int ((if c < 0 then -c else c) * (if decide ((10 : Int) ^ 18 ≤ if c < 0 then -c else c) then 1 else 0)), .int (c % 2147483629 + 7919 * k + 11), .int 0])) := by
      intro c p hp
      refine q p _ hp (same_new hp) ⟨_, _, _, upd_same, ?_, ?_, ?_, by omega, by omega⟩
      · refine Int.mul_nonneg ?_ ?_
        · split <;> omega
        · split <;> omega
      · have := Int.emod_nonneg c (show (2147483629 : Int) ≠ 0 by decide)
        omega
      · have := Int.emod_lt_of_pos c (show (0 : Int) < 2147483629 by decide)
        omega
    walk_at "ev"
    refine ite2 (fun e => ?_) (fun e => ?_)
    · have e1 : k < ((ns.map V.int).length : Int) := of_decide_eq_true e
      rw [List.length_map] at e1
      obtain ⟨c, hc, hat⟩ := at_ints h0 e1
      walk_at "ev"
      exact fin c
    · walk_at "ev"
      exact fin 0
end
/-! ### kinds of things -/
inductive Kd (K : PySem.W.Frag) (H : Hp) : V → String → Prop
  | non : Kd K H .non "NoneType"
  | bl (b : Bool) : Kd K H (.bl b) "bool"
  | int (i : Int) : Kd K H (.int i) "int"
  | str (x : Str) : Kd K H (.str x) "str"
  | lst {a : Addr} {xs : List V} : SqL K H a xs → Kd K H (.ref a) "list"
  | tup {a : Addr} {xs : List V} : SqT K H a xs → Kd K H (.ref a) "tuple"
theorem Kd.ty {K : PySem.W.Frag} {H : Hp} {x : V} {t : String} (h : Kd K H x t) : TyX K H x (.type t) := by
  cases h with
  | non => exact .base .non
  | bl b => exact .base (.bl b)
  | int i => exact .base (.int i)
  | str x => exact .base (.str x)
  | lst h =>
    rcases h with (h | ⟨o, h⟩) | ⟨o, its, n, h1, h2, _⟩
    · exact .base (.lst h)
    · exact .base (.frz h)
    · exact .kList h1 h2
  | tup h =>
    rcases h with (h | ⟨o, h⟩) | ⟨o, its, n, h1, h2, _⟩
    · exact .base (.tup h)
    · exact .fTuple h
    · exact .kTuple h1 h2
theorem Kd.same {K : PySem.W.Frag} {H H' : Hp} {x : V} {t : String} (h : Kd K H x t) (e : Same H H') : Kd K H' x t := by
  cases h with
  | non => exact .non
  | bl b => exact .bl b
  | int i => exact .int i
  | str x => exact .str x
  | lst h => exact .lst (e.seq h)
  | tup h => exact .tup (same_t e h)
def tis (t c : String) : Bool := t == c || (t == "bool" && c == "int")
theorem Kd.kit {K : PySem.W.Frag} {H : Hp} {x : V} {t : String} (h : Kd K H x t) : PySem.W.kitOne K (.type t) (.type "int") = some (tis t "int") ∧ PySem.W.kitOne K (.type t) (.type "bool") = some (tis t "bool") ∧ PySem.W.kitOne K (.type t) (.type "str") = some (tis t "str") ∧ PySem.W.kitOne K (.type t) (.type "list") = some (tis t "list") ∧ PySem.W.kitOne K (.type t) (.type "tuple") = some (tis t "tuple") := by
  cases h <;> exact ⟨kit_ty (by decide +kernel), kit_ty (by decide +kernel), kit_ty (by decide +kernel), kit_ty (by decide +kernel), kit_ty (by decide +kernel)⟩
theorem kit_lt {K : PySem.W.Frag} {t : String} {a b : Bool} (h1 : PySem.W.kitOne K (.type t) (.type "list") = some a) (h2 : PySem.W.kitOne K (.type t) (.type "tuple") = some b) : PySem.W.kitAny K (.type t) [.type "list", .type "tuple"] = some (a || b) := by
  refine kitAny_cons h1 (fun e => kitAny_cons h2 (fun e2 => ?_) (fun e2 => ?_)) (fun e => by rw [e]; rfl)
  · rw [e, e2]
    exact kitAny_nil
  · rw [e, e2]
    rfl
/-! ### == of lists of ints -/
theorem dp_ints {K : PySem.W.Frag} {H : Hp} : ∀ ns : List Int, DpAll K H (ns.map V.int) (ns.map PyData.int)
  | [] => .nil
  | n :: r => .cons (.int n) (dp_ints r)
theorem eqv_ints : ∀ ns ms : List Int, PyData.eqvAll (ns.map PyData.int) (ms.map PyData.int) = decide (ns = ms)
  | [], [] => by simp [PyData.eqvAll]
  | [], _ :: _ => by simp [PyData.eqvAll]
  | _ :: _, [] => by simp [PyData.eqvAll]
  | a :: r, b :: t => by
    simp only [List.map_cons, PyData.eqvAll, PyData.eqv, eqv_ints r t]
    by_cases h : a = b <;> by_cases h' : r = t <;> simp [h, h']
theorem eqd_ints {K : PySem.W.Frag} {H : Hp} {a b : Addr} {ns ms : List Int} {Q : VK} (ha : SqL K H a (ns.map V.int)) (hb : SqL K H b (ms.map V.int)) (q : Q (.bl (decide (ns = ms))) H) : rEqD K (.ref a) (.ref b) H Q := by
  refine ⟨_, _, .lst ha (dp_ints ns), .lst hb (dp_ints ms), PySem.W.ke_shaped_ints ns, PySem.W.ke_shaped_ints ms, ?_⟩
  have e : PyData.eqv (.list (ns.map PyData.int)) (.list (ms.map PyData.int)) = decide (ns = ms) := by
    rw [PyData.eqv]
    exact eqv_ints ns ms
  rw [e]
  exact q
/-! ### the law's own comparing, of like things -/
abbrev s__law_same : Stmt := top 26
abbrev N__law_same : List Str := ["_law_found", "_law_due", "_law_one", "_law_two"]
abbrev P__law_same : List Str := ["_law_found", "_law_due"]
theorem sc__law_same : FnScope N__law_same P__law_same (defScope s__law_same) := ⟨rfl, rfl, rfl, by decide +kernel, rfl, by decide +kernel, by decide +kernel⟩
def Fit : Nat → PyData → Prop
  | 0, .list _ => False
  | 0, .tuple _ => False
  | n + 1, .list ds => ds.length ≤ 4000 ∧ ∀ e ∈ ds, Fit n e
  | n + 1, .tuple ds => ds.length ≤ 4000 ∧ ∀ e ∈ ds, Fit n e
  | _, .dict _ => False
  | _, _ => True
theorem dpall_len {K : PySem.W.Frag} {H : Hp} : ∀ {xs : List V} {ds : List PyData}, DpAll K H xs ds → xs.length = ds.length
  | _, _, .nil => rfl
  | _, _, .cons _ h => by rw [List.length_cons, List.length_cons, dpall_len h]
theorem dpall_get {K : PySem.W.Frag} {H : Hp} : ∀ {xs : List V} {ds : List PyData} {i : Nat} {x : V}, DpAll K H xs ds → xs[i]? = some x → ∃ d, ds[i]? = some d ∧ Dp K H x d
  | _, _, _, _, .nil, h => by simp at h
  | _, _, 0, _, .cons (d := d) h1 h2, h => ⟨d, rfl, by
      have e := Option.some.inj h
      rw [← e]
      exact h1⟩
  | _, _, i + 1, _, .cons h1 h2, h => dpall_get (i := i) h2 h
mutual
theorem dp_same {K : PySem.W.Frag} {H H' : Hp} (e : Same H H') : ∀ {x : V} {d : PyData}, Dp K H x d → Dp K H' x d
  | _, _, .non => .non
  | _, _, .bl b => .bl b
  | _, _, .int i => .int i
  | _, _, .str x => .str x
  | _, _, .lst h a => .lst (e.seq h) (dpall_same e a)
  | _, _, .tup h a => .tup (same_t e h) (dpall_same e a)
theorem dpall_same {K : PySem.W.Frag} {H H' : Hp} (e : Same H H') : ∀ {xs : List V} {ds : List PyData}, DpAll K H xs ds → DpAll K H' xs ds
  | _, _, .nil => .nil
  | _, _, .cons h a => .cons (dp_same e h) (dpall_same e a)
end
def spSame (K : PySem.W.Frag) (n : Nat) : Sp := fun vs H Q _ => ∃ (x y : V) (d : PyData), vs = [x, y] ∧ Dp K H x d ∧ Dp K H y d ∧ Fit n d ∧ ∀ H', Same H H' → Q (.bl true) H'
/-- a comprehension over pairs -/
theorem lc_pairs {J : It} {xs ys : List V} {g : TG} {tt : TT} {te : TE} {vs : List Nat} {σ : L2.St} {H1 : Hp} {D : Addr} {Qd : Hp → Prop} (Pv : Nat → Hp → Prop) (h0 : Pv 0 (upd H1 D (.lst [])))
    (hgo : ∀ i H, Pv i H → i < xs.length → J.go i H) (hy : ∀ i H v H', Pv i H → i < xs.length → J.yld i H v H' → ∃ T x y, v = .ref T ∧ H T = none ∧ H' = upd H T (.tup [x, y]) ∧ xs[i]? = some x ∧ ys[i]? = some y)
    (hst : ∀ H, Pv xs.length H → J.stop xs.length H)
    (hs : ∀ i x y T H H', xs[i]? = some x → ys[i]? = some y → Pv i H → H T = none → H' = upd H T (.tup [x, y]) → g (.ref T) (wipe σ vs) H' fun σ2 H2 => wipe σ2 vs = wipe σ vs ∧ tt σ2 H2 fun b H3 =>
      if b = true then te σ2 H3 fun y H4 => ∃ acc, H4 D = some (.lst acc) ∧ acc.length < sizeLine ∧ Pv (i + 1) (upd H4 D (.lst (acc ++ [y]))) else Pv (i + 1) H3) (hd : ∀ H, Pv xs.length H → Qd H) :
    ∃ W : Nat → Nat → Hp → Prop, (∃ m, W 0 m (upd H1 D (.lst []))) ∧ ∀ i m H, W i m H →
      (J.stop i H ∧ Qd H) ∨ (J.go i H ∧ ∃ Nx : Hp → Prop, (∀ H', Nx H' → ∃ m', m' < m ∧ W (i + 1) m' H') ∧ ∀ x H', J.yld i H x H' → g x (wipe σ vs) H' fun σ2 H2 => wipe σ2 vs = wipe σ vs ∧ tt σ2 H2 fun b H3 =>
        if b = true then te σ2 H3 fun y H4 => ∃ acc, H4 D = some (.lst acc) ∧ acc.length < sizeLine ∧ Nx (upd H4 D (.lst (acc ++ [y]))) else Nx H3) := by
  refine ⟨fun i m H => m = xs.length - i ∧ i ≤ xs.length ∧ Pv i H, ⟨xs.length, by simp, Nat.zero_le _, h0⟩, ?_⟩
  rintro i m H ⟨rfl, hi, p⟩
  by_cases hlt : i < xs.length
  · refine .inr ⟨hgo i H p hlt, Pv (i + 1), fun H' p' => ⟨xs.length - (i + 1), by omega, rfl, hlt, p'⟩, fun v H' yl => ?_⟩
    obtain ⟨T, x, y, rfl, hT, e, f1, f2⟩ := hy i H v H' p hlt yl
    exact hs i x y T H H' f1 f2 p hT e
  · have e : i = xs.length := by omega
    subst e
    exact .inl ⟨hst H p, hd H p⟩
theorem q_dec {Q : VK} {x : V} {H : Hp} (h : Q (.bl true) H) : Q (.bl (decide (x = x))) H := by
  rw [decide_eq_true rfl]
  exact h
theorem all_true : ∀ n : Nat, (List.replicate n true).all id = true
  | 0 => rfl
  | n + 1 => by
    rw [List.replicate_succ, List.all_cons, all_true n]
    rfl
section
variable {P : Program} {w : World} {K : PySem.W.Frag} {mg : Str → Option Value} {base : Heap}
theorem same_step {f : Addr} {fd : FuncData} {n : Nat} {spI : Sp} (D__law_same : Df K mg "_law_same" s__law_same P__law_same f fd) (T : Blt mg) (G__law_same : FnOk P w K mg base CX0 n f fd P__law_same spI) (hG : ∀ m, n = m + 1 → spI = spSame K m) : FnOk P w K mg base CX0 (n + 1) f fd P__law_same (spSame K n) := by
  have nd := sc__law_same.nd
  refine D__law_same.F.ok sc__law_same (fun vs H Q E h => ?_) (fun cdv A outer s H vs Q E hr h => ?_)
  · obtain ⟨x, y, d, rfl, _⟩ := h
    rfl
  · obtain ⟨x, y, d, rfl, hx, hy, hf, q⟩ := h
    refine ⟨_, (pss_cons (ps_if (pt_val (pe_callB (r := rIsiT K) call_isiT (by rfl) T.b_isinstance (by decide +kernel) (pa_cons (pv 1) (pa_cons (pe_tup (pa_cons (pe_bltn (v := .ty "list") (by rfl) T.b_list (by decide +kernel) rfl) (pa_cons (pe_bltn (v := .ty "tuple") (by rfl) T.b_tuple (by decide +kernel) rfl) pa_nil))) pa_nil)))) (pss_cons (ps_if (PW.pt (pw_or (pt_cmpR op_ne (pe_callB (r := rIsi K) call_isi (by rfl) T.b_isinstance (by decide +kernel) (pa_cons (pv 0) (pa_cons (pe_bltn (v := .ty "list") (by rfl) T.b_list (by decide +kernel) rfl) pa_nil))) (pe_callB (r := rIsi K) call_isi (by rfl) T.b_isinstance (by decide +kernel) (pa_cons (pv 1) (pa_cons (pe_bltn (v := .ty "list") (by rfl) T.b_list (by decide +kernel) rfl) pa_nil))) (nomark _)) (pw_or1 (pt_cmpR op_ne (pe_callB (r := rIsi K) call_isi (by rfl) T.b_isinstance (by decide +kernel) (pa_cons (pv 0) (pa_cons (pe_bltn (v := .ty "tuple") (by rfl) T.b_tuple (by decide +kernel) rfl) pa_nil))) (pe_callB (r := rIsi K) call_isi (by rfl) T.b_isinstance (by decide +kernel) (pa_cons (pv 1) (pa_cons (pe_bltn (v := .ty "tuple") (by rfl) T.b_tuple (by decide +kernel) rfl) pa_nil))) (nomark _))))) (pss_one (ps_ret (pe_bl))) pss_nil)
      (pss_cons (ps_if (pt_cmpR op_ne (pe_callB (r := rLenQ K) call_len_seq (by rfl) T.b_len (by decide +kernel) (pa_cons (pv 0) pa_nil)) (pe_callB (r := rLenQ K) call_len_seq (by rfl) T.b_len (by decide +kernel) (pa_cons (pv 1) pa_nil)) (nomark _)) (pss_one (ps_ret (pe_bl))) pss_nil)
      (pss_one (ps_ret (pe_callB (r := rAll K) (cr_all rfl) (by rfl) T.b_all (by decide +kernel) (pa_cons (pe_lc (own := [("_law_one", 2), ("_law_two", 3)]) (g := gTup K 2 (gCons (gName 2) (gCons (gName 3) gNil))) (by rfl) nd (RZ.pi_zipA (by rfl) T.b_zip (pa_cons (pv 0) (pa_cons (pv 1) pa_nil))) (blkOk_by (own := [("_law_one", 2), ("_law_two", 3)]) (N := N__law_same) (sc := defScope s__law_same) (by decide +kernel)) (fun _ _ _ _ _ => (pg_tup (by rfl) (pgs_cons (pg_name (i := 2) nd rfl (Or.inl rfl)) (pgs_cons (pg_name (i := 3) nd rfl (Or.inl rfl)) pgs_nil)))) (fun _ _ _ _ _ => pts_nil) (fun _ _ _ _ _ => (pe_call G__law_same (hr.mono (by omega)) (by rfl) D__law_same.g D__law_same.F.kp D__law_same.b .nil pass0 (pa_cons (pv 2) (pa_cons (pv 3) pa_nil))))) pa_nil)))))) pss_nil)
      (pss_cons (ps_if (PW.pt (pw_or (pt_cmpR op_isN (pv 1) (pe_non) (nomark _)) (pw_or1 (pt_val (pe_callB (r := rIsi K) call_isi (by rfl) T.b_isinstance (by decide +kernel) (pa_cons (pv 1) (pa_cons (pe_bltn (v := .ty "str") (by rfl) T.b_str (by decide +kernel) rfl) pa_nil))))))) (pss_one (ps_ret (pe_and (pe_cmpR op_eq (pv 0) (pv 1) (nomark _)) (pe_one (pe_cmpR op_eq (pe_callB (r := rIsi K) call_isi (by rfl) T.b_isinstance (by decide +kernel) (pa_cons (pv 0) (pa_cons (pe_bltn (v := .ty "str") (by rfl) T.b_str (by decide +kernel) rfl) pa_nil))) (pe_callB (r := rIsi K) call_isi (by rfl) T.b_isinstance (by decide +kernel) (pa_cons (pv 1) (pa_cons (pe_bltn (v := .ty "str") (by rfl) T.b_str (by decide +kernel) rfl) pa_nil))) (nomark _)))))) pss_nil)
      (pss_one (ps_ret (pe_and (pe_callB (r := rIsi K) call_isi (by rfl) T.b_isinstance (by decide +kernel) (pa_cons (pv 0) (pa_cons (pe_bltn (v := .ty "int") (by rfl) T.b_int (by decide +kernel) rfl) pa_nil))) (pe_and (pe_cmpR op_eq (pe_callB (r := rIsi K) call_isi (by rfl) T.b_isinstance (by decide +kernel) (pa_cons (pv 0) (pa_cons (pe_bltn (v := .ty "bool") (by rfl) T.b_bool (by decide +kernel) rfl) pa_nil))) (pe_callB (r := rIsi K) call_isi (by rfl) T.b_isinstance (by decide +kernel) (pa_cons (pv 1) (pa_cons (pe_bltn (v := .ty "bool") (by rfl) T.b_bool (by decide +kernel) rfl) pa_nil))) (nomark _)) (pe_one (pe_cmpR op_eq (pv 0) (pv 1) (nomark _))))))))), ?_⟩
    cases hx with
    | non =>
      cases hy
      walk_at "ev"
      intro p hp
      generalize hH : upd _ p _ = H1
      obtain ⟨sm, hp1⟩ := newO hH hp
      have kd : Kd K H1 .non "NoneType" := .non
      have ty := kd.ty
      obtain ⟨k1, k2, k3, k4, k5⟩ := kd.kit
      have ka := kit_lt k4 k5
      walk_at "ev"
      exact q_dec (q _ sm)
    | bl b =>
      cases hy
      walk_at "ev"
      intro p hp
      generalize hH : upd _ p _ = H1
      obtain ⟨sm, hp1⟩ := newO hH hp
      have kd : Kd K H1 (.bl b) "bool" := .bl b
      have ty := kd.ty
      obtain ⟨k1, k2, k3, k4, k5⟩ := kd.kit
      have ka := kit_lt k4 k5
      walk_at "ev"
      exact q_dec (q _ sm)
    | int i =>
      cases hy
      walk_at "ev"
      intro p hp
      generalize hH : upd _ p _ = H1
      obtain ⟨sm, hp1⟩ := newO hH hp
      have kd : Kd K H1 (.int i) "int" := .int i
      have ty := kd.ty
      obtain ⟨k1, k2, k3, k4, k5⟩ := kd.kit
      have ka := kit_lt k4 k5
      walk_at "ev"
      exact q_dec (q _ sm)
    | str z =>
      cases hy
      walk_at "ev"
      intro p hp
      generalize hH : upd _ p _ = H1
      obtain ⟨sm, hp1⟩ := newO hH hp
      have kd : Kd K H1 (.str z) "str" := .str z
      have ty := kd.ty
      obtain ⟨k1, k2, k3, k4, k5⟩ := kd.kit
      have ka := kit_lt k4 k5
      walk_at "ev"
      exact q_dec (q _ sm)
    | lst hs ha =>
      rename_i a xs ds
      cases hy with
      | lst ht hb =>
      rename_i b ys
      have el : ys.length = xs.length := (dpall_len hb).trans (dpall_len ha).symm
      have el' : V.int (xs.length : Int) = V.int (ys.length : Int) := by rw [el]
      cases n with
      | zero => exact hf.elim
      | succ n =>
      have hf' : ds.length ≤ 4000 ∧ ∀ e ∈ ds, Fit n e := hf
      have hS := hG n rfl
      subst hS
      walk_at "ev"
      intro p hp
      generalize hH : upd _ p _ = H1
      obtain ⟨sm, hp1⟩ := newO hH hp
      have hs1 := sm.seq hs
      have ht1 := sm.seq ht
      have kd : Kd K H1 (.ref a) "list" := .lst hs1
      have ty := kd.ty
      have kd' : Kd K H1 (.ref b) "list" := .lst ht1
      have ty' := kd'.ty
      obtain ⟨k1, k2, k3, k4, k5⟩ := kd.kit
      have ka := kit_lt k4 k5
      walk_at "ev"
      refine .inl ⟨hs1, ht1, fun D hD => ?_⟩
      refine lc_pairs (xs := xs) (ys := ys) (fun i H' => Hold (Same H1 H' ∧ H' D = some (.lst ((List.replicate i true).map V.bl)))) (.mk ⟨same_new hD, upd_same⟩) ?_ ?_ ?_ ?_ ?_
      · intro i H' hP hi
        obtain ⟨sm2, hD2⟩ := hP.un
        have hi2 : i < ys.length := by omega
        exact ⟨xs, ys, _, _, sm2.seq hs1, sm2.seq ht1, List.getElem?_eq_getElem hi, List.getElem?_eq_getElem hi2⟩
      · intro i H' v H'' hP hi yl
        obtain ⟨sm2, hD2⟩ := hP.un
        obtain ⟨T, x, y, e1, e2, e3, f1, f2⟩ := yl
        exact ⟨T, x, y, e1, e2, e3, f1 _ (sm2.seq hs1), f2 _ (sm2.seq ht1)⟩
      · intro H' hP
        obtain ⟨sm2, hD2⟩ := hP.un
        exact ⟨xs, ys, sm2.seq hs1, sm2.seq ht1, .inl (Nat.le_refl _)⟩
      · intro i x y T' H' H'' hx hy hP hT e
        obtain ⟨sm2, hD2⟩ := hP.un
        obtain ⟨sm3, hT3⟩ := newO e.symm hT
        have hT4 : SqT K H'' T' [x, y] := SqT.of hT3
        obtain ⟨d, hd, hdx⟩ := dpall_get ha hx
        obtain ⟨d', hd', hdy⟩ := dpall_get hb hy
        have ed : d' = d := Option.some.inj (hd'.symm.trans hd)
        subst ed
        have sm4 : Same H H'' := (sm.trans sm2).trans sm3
        have dx := dp_same sm4 hdx
        have dy := dp_same sm4 hdy
        have ft := hf'.2 _ (List.mem_of_getElem? hd)
        have hil : i < xs.length := (List.getElem?_eq_some_iff.mp hx).1
        have hdl := dpall_len ha
        have hlen : i ≤ 4000 := by omega
        walk_at "ev"
        intro H5 sm5
        have hD5 := sm5 _ _ (sm3 _ _ hD2)
        refine ⟨_, hD5, szm (by simp; omega), .mk ⟨same_mut ((sm2.trans sm3).trans sm5) hD, ?_⟩⟩
        rw [upd_same, List.replicate_succ', List.map_append]
        rfl
      · intro H' hP
        obtain ⟨sm2, hD2⟩ := hP.un
        refine ⟨D, List.replicate xs.length true, rfl, SqL.of hD2, ?_⟩
        rw [all_true]
        exact q _ (sm.trans sm2)
    | tup hs ha =>
      rename_i a xs ds
      cases hy with
      | tup ht hb =>
      rename_i b ys
      have el : ys.length = xs.length := (dpall_len hb).trans (dpall_len ha).symm
      have el' : V.int (xs.length : Int) = V.int (ys.length : Int) := by rw [el]
      cases n with
      | zero => exact hf.elim
      | succ n =>
      have hf' : ds.length ≤ 4000 ∧ ∀ e ∈ ds, Fit n e := hf
      have hS := hG n rfl
      subst hS
      walk_at "ev"
      intro p hp
      generalize hH : upd _ p _ = H1
      obtain ⟨sm, hp1⟩ := newO hH hp
      have hs1 := same_t sm hs
      have ht1 := same_t sm ht
      have kd : Kd K H1 (.ref a) "tuple" := .tup hs1
      have ty := kd.ty
      have kd' : Kd K H1 (.ref b) "tuple" := .tup ht1
      have ty' := kd'.ty
      obtain ⟨k1, k2, k3, k4, k5⟩ := kd.kit
      have ka := kit_lt k4 k5
      walk_at "ev"
      refine .inr ⟨hs1, ht1, fun D hD => ?_⟩
      refine lc_pairs (xs := xs) (ys := ys) (fun i H' => Hold (Same H1 H' ∧ H' D = some (.lst ((List.replicate i true).map V.bl)))) (.mk ⟨same_new hD, upd_same⟩) ?_ ?_ ?_ ?_ ?_
      · intro i H' hP hi
        obtain ⟨sm2, hD2⟩ := hP.un
        have hi2 : i < ys.length := by omega
        exact ⟨xs, ys, _, _, same_t sm2 hs1, same_t sm2 ht1, List.getElem?_eq_getElem hi, List.getElem?_eq_getElem hi2⟩
      · intro i H' v H'' hP hi yl
        obtain ⟨sm2, hD2⟩ := hP.un
        obtain ⟨T, x, y, e1, e2, e3, f1, f2⟩ := yl
        exact ⟨T, x, y, e1, e2, e3, f1 _ (same_t sm2 hs1), f2 _ (same_t sm2 ht1)⟩
      · intro H' hP
        obtain ⟨sm2, hD2⟩ := hP.un
        exact ⟨xs, ys, same_t sm2 hs1, same_t sm2 ht1, .inl (Nat.le_refl _)⟩
      · intro i x y T' H' H'' hx hy hP hT e
        obtain ⟨sm2, hD2⟩ := hP.un
        obtain ⟨sm3, hT3⟩ := newO e.symm hT
        have hT4 : SqT K H'' T' [x, y] := SqT.of hT3
        obtain ⟨d, hd, hdx⟩ := dpall_get ha hx
        obtain ⟨d', hd', hdy⟩ := dpall_get hb hy
        have ed : d' = d := Option.some.inj (hd'.symm.trans hd)
        subst ed
        have sm4 : Same H H'' := (sm.trans sm2).trans sm3
        have dx := dp_same sm4 hdx
        have dy := dp_same sm4 hdy
        have ft := hf'.2 _ (List.mem_of_getElem? hd)
        have hil : i < xs.length := (List.getElem?_eq_some_iff.mp hx).1
        have hdl := dpall_len ha
        have hlen : i ≤ 4000 := by omega
        walk_at "ev"
        intro H5 sm5
        have hD5 := sm5 _ _ (sm3 _ _ hD2)
        refine ⟨_, hD5, szm (by simp; omega), .mk ⟨same_mut ((sm2.trans sm3).trans sm5) hD, ?_⟩⟩
        rw [upd_same, List.replicate_succ', List.map_append]
        rfl
      · intro H' hP
        obtain ⟨sm2, hD2⟩ := hP.un
        refine ⟨D, List.replicate xs.length true, rfl, SqL.of hD2, ?_⟩
        rw [all_true]
        exact q _ (sm.trans sm2)
theorem ok_same {f : Addr} {fd : FuncData} (D__law_same : Df K mg "_law_same" s__law_same P__law_same f fd) (T : Blt mg) : ∀ n : Nat, FnOk P w K mg base CX0 (n + 1) f fd P__law_same (spSame K n)
  | 0 => same_step (spI := fun _ _ _ _ => False) D__law_same T ⟨fun _ _ _ _ h => h.elim, fun _ _ _ _ _ _ _ _ _ _ _ _ _ h => h.elim⟩ (fun m h => by omega)
  | n + 1 => same_step D__law_same T (ok_same D__law_same T n) (fun m h => by cases h; rfl)
end
/-! ### a list or a tuple -/
section
open PySem.Spec PyProof.Rows
variable {X : Cx}
def rIxQ (K : PySem.W.Frag) : R2 := fun x y H Q => ∃ p xs i v, x = .ref p ∧ y = .int i ∧ (SqL K H p xs ∨ SqT K H p xs) ∧ atI xs i = some v ∧ Q v H
theorem ix_seq : IxR X (rIxQ X.K) := by
  intro value slice pins s σ H x y v u Q I rx ry h hs
  obtain ⟨p, xs, i, z, e1, e2, hq | hq, he, q⟩ := h
  · exact ix_list value slice pins s σ H x y v u Q I rx ry ⟨p, xs, i, z, e1, e2, hq, he, q⟩ hs
  · exact ix_tup value slice pins s σ H x y v u Q I rx ry ⟨p, xs, i, z, e1, e2, hq, he, q⟩ hs
end
theorem sq_same {K : PySem.W.Frag} {H H' : Hp} {a : Addr} {xs : List V} (e : Same H H') (h : SqL K H a xs ∨ SqT K H a xs) : SqL K H' a xs ∨ SqT K H' a xs := by
  rcases h with h | h
  · exact .inl (e.seq h)
  · exact .inr (same_t e h)
/-! ### the refusals' own making -/
abbrev s_init : Stmt := inClass (top 1) 0
abbrev N_init : List Str := ["self", "what"]
theorem sc_init : FnScope N_init N_init (defScope s_init) := ⟨rfl, rfl, rfl, by decide +kernel, rfl, by decide +kernel, by decide +kernel⟩
def spInit (K : PySem.W.Frag) : Sp := fun vs H Q _ => ∃ (a C : Addr) (v : V), vs = [.ref a, v] ∧ OexC K C ∧ PySem.W.findIn K (.ref C) "what" = some none ∧ H a = some (exo a C none) ∧
  ∀ dx, H dx = none → dx ≠ a → Q .non (upd (upd H dx (exd dx [(("what" : Str), v)])) a (exo a C (some dx)))
section
variable {P : Program} {w : World} {K : PySem.W.Frag} {mg : Str → Option Value} {base : Heap}
theorem ok_init {f : Addr} {fd : FuncData} {k : Nat} (F : Fun K "__init__" "TurnError.__init__" s_init f fd) : FnOk P w K mg base CX0 (k + 1) f fd N_init (spInit K) := by
  refine F.ok sc_init (fun vs H Q E h => ?_) (fun cdv A outer s H vs Q E hr h => ?_)
  · obtain ⟨a, C, v, rfl, _⟩ := h
    rfl
  · obtain ⟨a, C, v, rfl, T, nw, ha, q⟩ := h
    refine ⟨_, pss_one (ps_ost (pv 0) (pv 1)), ?_⟩
    exact ⟨_, rfl, _, rfl, a, C, rfl, T, nw, .inl ⟨ha, q⟩⟩
end
/-- C(v), made to be raised -/
theorem mk_what {K : PySem.W.Frag} {C : Addr} {v : V} {Q : XK} {H1 : Hp} (E : ExK K C) (h : ∀ d H', H1 d = none → Same H1 H' → H' d = some (.xd [(("what" : Str), v)]) → Q (.ref C) (some d) H') : ∀ a, H1 a = none → spInit K (.ref a :: ([v] ++ [])) (upd H1 a (exo a C none))
    (fun v' H2 => v' = .non ∧ ∃ (d : Addr) (fs : List (Str × V)), H2 a = some (exo a C (some d)) ∧ H2 d = some (exd d fs) ∧ H1 d = none ∧ Q (.ref C) (some d) (upd (del H2 a) d (.xd fs))) (fun _ _ _ => False) := by
  intro a ha
  refine ⟨a, C, v, rfl, E.oex, E.nw, upd_same, fun dx hd ne => ?_⟩
  rw [upd_ne ne] at hd
  refine ⟨rfl, dx, _, upd_same, ?_, hd, h dx _ hd (fun b o e => ?_) upd_same⟩
  · rw [upd_ne ne, upd_same]
  · have n1 := ne_of_none e hd
    have n2 := ne_of_none e ha
    rw [upd_ne n1, del_ne n2, upd_ne n2, upd_ne n1, upd_ne n2]
    exact e
/-- what is told of the class of a refusal, under TurnError at CT -/
structure Ref (K : PySem.W.Frag) (CT C fI : Addr) : Prop where
  ek : ExK K C
  ini : PySem.W.findIn K (.ref C) "__init__" = some (some (.ref fI))
  em : PySem.W.exmOne K (.ref C) (.ref CT) = some true
  kv : PySem.W.kitOne K (.ref C) (.type "ValueError") = some true
  kt : PySem.W.kitOne K (.ref C) (.ref CT) = some true
abbrev s__law_pick : Stmt := top 24
abbrev N__law_pick : List Str := ["_law_box_here", "_law_things"]
abbrev P__law_pick : List Str := ["_law_box_here", "_law_things"]
theorem sc__law_pick : FnScope N__law_pick P__law_pick (defScope s__law_pick) := ⟨rfl, rfl, rfl, by decide +kernel, rfl, by decide +kernel, by decide +kernel⟩
def spPick (K : PySem.W.Frag) : Sp := fun vs H Q _ => ∃ (b a : Addr) (xs : List V) (n : Int), vs = [.ref b, .ref a] ∧ BoxAt H b n ∧ SqL K H a xs ∧ a ≠ b ∧ 0 < (xs.length : Int) ∧ (xs.length : Int) < 1048576 ∧ n < 1048576 ∧ ∀ v H', v ∈ xs → Keep b H H' → BoxAt H' b (n + 1) → Q v H'
section
variable {P : Program} {w : World} {K : PySem.W.Frag} {mg : Str → Option Value} {base : Heap}
theorem ok_pick {f fT : Addr} {fd fdT : FuncData} {k : Nat} (F : Fun K "_law_pick" "_law_pick" s__law_pick f fd) (T : Blt mg) (D__law_take : Df K mg "_law_take" s__law_take P__law_take fT fdT) : FnOk P w K mg base CX0 (k + 2) f fd P__law_pick (spPick K) := by
  have G__law_take : FnOk P w K mg base CX0 (k + 1) fT fdT P__law_take spTake := ok_take D__law_take.F
  have nd := sc__law_pick.nd
  refine F.ok sc__law_pick (fun vs H Q E h => ?_) (fun cdv A outer s H vs Q E hr h => ?_)
  · obtain ⟨b, a, xs, n, rfl, _⟩ := h
    rfl
  · obtain ⟨b, a, xs, n, rfl, hb, hL, hne, h0, h1, hn, q⟩ := h
    refine ⟨_, (pss_one (ps_ret (pe_ix (r := rIxL K) ix_list (pv 1) (pe_call G__law_take (hr.mono (by omega)) (by rfl) D__law_take.g D__law_take.F.kp D__law_take.b .nil pass0 (pa_cons (pv 0) (pa_cons (pe_callB (r := rLenQ K) call_len_seq (by rfl) T.b_len (by decide +kernel) (pa_cons (pv 1) pa_nil)) pa_nil))) (fun _ _ => rfl)))), ?_⟩
    walk_at "ev"
    intro r H' hr0 hr1 hk hb'
    obtain ⟨v, hv, hat⟩ := at_some hr0 hr1
    have hL' := hk.seq hne hL
    walk_at "ev"
    exact q _ _ hv hk hb'
end
theorem keep_fresh {b D : Addr} {H H' : Hp} {o : HO} (h : Keep b H H') (n : H D = none) : Keep b H (upd H' D o) := fun a u na e => by
  rw [upd_ne (ne_of_none e n)]
  exact h a u na e
theorem BoxAt.upd {H : Hp} {b D : Addr} {n : Int} {o : HO} (h : BoxAt H b n) (e : D ≠ b) : BoxAt (L2.upd H D o) b n := by
  obtain ⟨x, y, z, a1, a2⟩ := h
  exact ⟨x, y, z, by rw [upd_ne e.symm]; exact a1, a2⟩
theorem dpl {K : PySem.W.Frag} {H : Hp} {a : Addr} (ns : List Int) (h : SqL K H a (ns.map V.int)) : Dp K H (.ref a) (.list (ns.map PyData.int)) := .lst h (dp_ints ns)
theorem fitl (ns : List Int) (h : ns.length ≤ 4000) : Fit 1 (.list (ns.map PyData.int)) := by
  refine ⟨by rw [List.length_map]; exact h, fun e he => ?_⟩
  obtain ⟨c, _, rfl⟩ := List.mem_map.mp he
  exact True.intro
theorem fit_ni {x : Str} {a : Int} : Fit 1 (.tuple [.str x, .int a]) := by
  refine ⟨by simp, fun e he => ?_⟩
  simp only [List.mem_cons, List.not_mem_nil, or_false] at he
  rcases he with h | h <;> rw [h] <;> exact True.intro
/-! ### a loop over enumerate -/
theorem for_enumL {K : PySem.W.Frag} {a : Addr} {xs : List V} {g : TG} {tb : TS} {D : Ends} {σ : L2.St} {H : Hp} (Pv : Nat → L2.St → Hp → Prop) (h0 : Pv 0 σ H) (hq : ∀ i σ H, Pv i σ H → SqL K H a xs)
    (hs : ∀ (i : Nat) (x : V) (T : Addr) (σ : L2.St) (H : Hp), xs[i]? = some x → Pv i σ H → H T = none → g (.ref T) σ (upd H T (.tup [.int (i : Nat), x])) fun σ2 H2 => tb { D with nx := Pv (i + 1), ct := Pv (i + 1), bk := D.nx } σ2 H2) (hd : ∀ σ H, Pv xs.length σ H → D.nx σ H) :
    ∃ W : Nat → Nat → L2.St → Hp → Prop, (∃ m, W 0 m σ H) ∧ ∀ i m σ H, W i m σ H →
      ((Ite K a).stop i H ∧ D.nx σ H) ∨ ((Ite K a).go i H ∧ ∃ N : L2.St → Hp → Prop, (∀ σ' H', N σ' H' → ∃ m', m' < m ∧ W (i + 1) m' σ' H') ∧ ∀ v H', (Ite K a).yld i H v H' → g v σ H' fun σ2 H2 => tb { D with nx := N, ct := N, bk := D.nx } σ2 H2) := by
  refine ⟨fun i m σ H => m = xs.length - i ∧ i ≤ xs.length ∧ Pv i σ H, ⟨xs.length, rfl, Nat.zero_le _, h0⟩, ?_⟩
  rintro i m σ H ⟨rfl, hi, p⟩
  have q := hq i σ H p
  by_cases hlt : i < xs.length
  · refine .inr ⟨⟨xs, xs[i], q, List.getElem?_eq_getElem hlt⟩, Pv (i + 1), fun σ' H' p' => ⟨xs.length - (i + 1), by omega, rfl, hlt, p'⟩, fun v H' y => ?_⟩
    obtain ⟨T, x', rfl, hT, rfl, f1⟩ := y
    exact hs i x' T σ H (f1 xs q) p hT
  · have e : i = xs.length := by omega
    subst e
    exact .inl ⟨⟨xs, q, Nat.le_refl _⟩, hd σ H p⟩
/-! ### enumerate of a tuple -/
section
open PySem.Spec PyProof.Rows
abbrev tIt (t : Addr) : Obj := { cls := .type "tuple_iterator", data := .fields #[.ref t, .int 0 0] }
abbrev tEn (i : Addr) : Obj := { cls := .type "enumerate", data := .fields #[.none, .bool false, .ref i, rawInt 0, .none, .none] }
theorem meets_enumT (l : Addr) (items : Array Value) (n : Nat) (dct : Option Addr) (sl : Array (Option Value)) :
    Meets (Builtin.«enumerate.__new__» ⟨[.type "enumerate", .ref l], []⟩) (fun _ R s => s.heap.get? l = some { cls := .type "tuple", dict := dct, data := .seq items n, slots := sl } ∧
      R (.ok (.ret (.ref (s.heap.push (tIt l)).objs.size))) { s with heap := (s.heap.push (tIt l)).push (tEn s.heap.objs.size) }) :=
  .of_wp fun prog w A R s h => by
    obtain ⟨hp, g, d, tk, os⟩ := s
    obtain ⟨hl, h⟩ := h
    have hsub := sub_enumerate
    have hT : Heap.IsTuple (Shared.heap ⟨hp, g, d, tk, os⟩) l items := ⟨_, hl, rfl, n, rfl⟩
    have q1 : ∀ {A' : Around} {E : Value → Shared → Prop} {Q : Value → Shared → Prop}, Q (.ref hp.objs.size) ⟨hp.push (tIt l), g, d, tk, os⟩ → wpAny (model prog w) A' (pyIter (.ref l)) Q E ⟨hp, g, d, tk, os⟩ := fun q => wpAny_pyIter_tuple hT q
    wp_walk using AutoSeq1.wpAny_loadPart' hl
    refine wpAny_stack_any fun st => wpAny_pure ?_
    split
    · rename_i c _ _ _ _ _
      cases (c == Value.type "enumerate")
      · wp_walk using AutoSeq1.wpAny_loadPart' hl, q1
        exact ⟨_, rfl, h⟩
      · wp_walk using AutoSeq1.wpAny_loadPart' hl, q1
        exact ⟨_, rfl, h⟩
    · wp_walk using AutoSeq1.wpAny_loadPart' hl, q1
      exact ⟨_, rfl, h⟩
theorem call_enumT {prog : Program} {w : World} {A : Around} {E : Value → Shared → Prop} {s : Shared} {l : Addr} {items : Array Value} {Q : Value → Shared → Prop} (hL : s.heap.IsTuple l items)
    (h : ∀ h', IsEnum h' (s.heap.objs.size + 1) s.heap.objs.size 0 .none → h'.IsTupleIter s.heap.objs.size l 0 → (∀ b o, s.heap.get? b = some o → h'.get? b = some o) → Q (.ref (s.heap.objs.size + 1)) { s with heap := h' }) :
    wpAny (model prog w) A (call (.type "enumerate") [.ref l]) Q E s := by
  obtain ⟨⟨c, dct, dt, sl⟩, hl, hc, n, hd⟩ := hL
  replace hc : c = .type "tuple" := hc
  replace hd : dt = .seq items n := hd
  subst hc hd
  refine callType_new F.called_enumerate (by decide) (F.typeCall_enumerate_1 _) (F.newCall_enumerate_1 _) (fun obj => F.args_object_init_2 obj _) F.entry_enumerate_new (meets_enumT l items n dct sl) ⟨hl, ?_⟩
  have hz : (s.heap.push (tIt l)).objs.size = s.heap.objs.size + 1 := Heap.size_push ..
  show _ ∧ _
  rw [hz]
  have he : IsEnum ((s.heap.push (tIt l)).push (tEn s.heap.objs.size)) (s.heap.objs.size + 1) s.heap.objs.size 0 .none := by
    have k := Heap.get?_push_size (s.heap.push (tIt l)) (o := tEn s.heap.objs.size) rfl
    rw [hz] at k
    exact k
  exact ⟨⟨_, he, rfl⟩, h _ he ⟨_, Heap.get?_push_of_some _ (Heap.get?_push_size _ rfl), rfl, rfl⟩ fun b o x => Heap.get?_push_of_some _ (Heap.get?_push_of_some _ x)⟩
/-- the tuple at a, each item in a new pair -/
def IteT (K : PySem.W.Frag) (a : Addr) : It :=
  ⟨fun i H => ∃ (xs : List V) (x : V), SqT K H a xs ∧ xs[i]? = some x, fun i H v H' => ∃ T x, v = .ref T ∧ H T = none ∧ H' = upd H T (.tup [.int (i : Nat), x]) ∧ ∀ xs, SqT K H a xs → xs[i]? = some x, fun i H => ∃ xs : List V, SqT K H a xs ∧ xs.length = i⟩
theorem turn_enumT {P : Program} {w : World} {K : PySem.W.Frag} {elts : List Expr} {kk : Nat} {tpos : Pos} (a e it : Addr) :
    Turn P w K (.Tuple elts kk tpos) (IteT K a) [e, it] e (fun i h => (∃ old, IsEnum h e it ((i : Nat) : Int) old) ∧ h.IsTupleIter it a i ∧ e ≠ it ∧ a ≠ it ∧ a ≠ e) where
  mem := by simp
  obj := fun i h st b hb => by
    obtain ⟨⟨old, he⟩, ⟨o, ho, hc, hd⟩, _⟩ := st
    have z : b = e ∨ b = it := by simpa using hb
    rcases z with z | z
    · rw [z]
      exact ⟨_, he, fun v q => nomatch q⟩
    · rw [z]
      exact ⟨o, ho, fun v q => by rw [hd] at q; cases q⟩
  keep := fun i h h' st k => by
    obtain ⟨⟨old, he⟩, hi, hne⟩ := st
    exact ⟨⟨old, k e (by simp) _ he⟩, hi.at fun o q => k it (by simp) o q, hne⟩
  item := by
    intro X hP hw hK hc i pins s σ H E I hf st hg
    subst hP hw hK
    obtain ⟨⟨old, he⟩, hit, hne, hna, hnb⟩ := st
    obtain ⟨xs, x, hq, hx⟩ := hg
    obtain ⟨its, rv, p, hz⟩ := I.tuple hq
    obtain ⟨u, hu, ru⟩ := rv.get hx
    have hel : e < s.heap.objs.size := Heap.lt_size he
    have hil : it < s.heap.objs.size := by
      obtain ⟨_, q, _⟩ := hit
      exact Heap.lt_size q
    have hlt : i < its.toArray.size := by
      rw [List.size_toArray]
      exact (List.getElem?_eq_some_iff.mp hu).1
    have dr : Draws X.prog X.w X.A.in1 it [it, a] its.toArray.size (fun i v => its.toArray[i]? = some v) (fun i h => h.IsTupleIter it a i ∧ h.IsTuple a its.toArray) := Draws.tuple (A := X.A.in1) (I.ok.hd hc) it a hna its.toArray
    refine wpAny_pyNext_enum_itemD dr he ⟨hit, p⟩ hlt hne (by simp [hne, hnb.symm]) fun y h' tk hy ho hst hT hsz hk => ?_
    have ey : y = u := by
      have h1 : its.toArray[i]? = some u := by simpa using hu
      rw [h1] at hy
      exact (Option.some.inj hy).symm
    subst ey
    refine ⟨_, rfl, wpAny_letOwnedTupleGo_enum (s := { s with heap := h', toks := tk + 1 }) ho fun h'' he' sb => ?_⟩
    have hT2 := (sb.2 _ (Nat.ne_of_gt hel)).trans hT
    have new : ObjOk X.prog X.w (upd H s.heap.objs.size (.tup [.int (i : Nat), x])) h'' s.heap.objs.size (.tup [.int (i : Nat), x]) := ⟨by show 2 ≤ sizeLine; decide, [.int i tk, y], .cons ⟨_, rfl⟩ (.cons ru .nil), ⟨_, hT2, rfl, _, rfl⟩⟩
    have I1 : Inv X pins σ (upd H s.heap.objs.size (.tup [.int (i : Nat), x])) { s with heap := h'', toks := tk + 1 } :=
      I.turnedNew (ch := [e, it]) (fun b ob hb q => (sb.2 b (fun z => hb (by simp [z]))).trans (hk b ob (fun z => hb (by simp [z])) (fun z => hb (by simp [z])) q)) hf (Nat.le_refl _) new
    refine ⟨.ref s.heap.objs.size, _, I1, rfl, ⟨_, x, rfl, I.hok.fresh (Nat.le_refl _), rfl, fun ys hy => by rw [I.tuple_inj hy hq]; exact hx⟩, ⟨⟨y, ?_⟩, hst.1.at fun o q => (sb.2 it hne.symm).trans q, hne, hna, hnb⟩, fun b hb => ?_⟩
    · rw [show ((i + 1 : Nat) : Int) = (i : Int) + 1 by omega]
      exact he'
    · have hb' : b < s.heap.objs.size := by
        have z : b = e ∨ b = it := by simpa using hb
        rcases z with z | z <;> rw [z]
        · exact hel
        · exact hil
      rw [upd_ne (Nat.ne_of_lt hb')]
      exact (hf b hb).1
  done := by
    intro X hP hw hK hc i pins s σ H E I hf st hg
    subst hP hw hK
    obtain ⟨⟨old, he⟩, hit, hne, hna, hnb⟩ := st
    obtain ⟨xs, hq, hx⟩ := hg
    obtain ⟨its, rv, p, hz⟩ := I.tuple hq
    obtain ⟨f0, f1, f2, f3, f4, f5⟩ := hf it (by simp)
    have hl : its.toArray.size = i := by
      rw [List.size_toArray, ← rv.length]
      exact hx
    have dr : Draws X.prog X.w X.A.in1 it [it, a] its.toArray.size (fun i v => its.toArray[i]? = some v) (fun i h => h.IsTupleIter it a i ∧ h.IsTuple a its.toArray) := Draws.tuple (A := X.A.in1) (I.ok.hd hc) it a hna its.toArray
    exact wpAny_pyNext_enum_endD dr he (by rw [hl]; exact ⟨hit, p⟩) fun h' eb => ⟨rfl, I.turned (t' := s.toks) (fun b o hb q => eb b o hb q) f0 f1 f3 f4 f5⟩
  self := fun A i s Q E st h => by
    obtain ⟨⟨_, he⟩, _⟩ := st
    exact wpAny_pyIter_enum he h
def iEnumT (K : PySem.W.Frag) (ta : TA) : TI := fun σ H R => ta σ H fun vs H1 => ∃ a xs, vs = [.ref a] ∧ SqT K H1 a xs ∧ R (IteT K a) H1
theorem pi_enumT {X : Cx} {e : Expr} {ta : TA} {p pos tpos : Pos} {elts : List Expr} {kk : Nat} (hg : Gl X "enumerate") (hm : X.mg "enumerate" = none) (ha : PA X [e] ta) (hs : starEach [e] X.env = [(false, eval e X.env)] := by rfl) :
    PI X (.Tuple elts kk tpos) (.Call (.Name "enumerate" p) [e] [] pos) (iEnumT X.K ta) := by
  refine ⟨fun pins s σ H R I h => ?_⟩
  refine Call_ (ld_blt I hg hm boot_enumerate (PyProof.Rows.callWith_type1 (thn (ha.run pos pins s σ H _ I h) fun us s1 ⟨vs, H1, I1, r1, q1⟩ => ?_) hs rfl))
  obtain ⟨a, xs, ex, hq, q⟩ := q1
  subst ex
  obtain ⟨u, rfl, ru⟩ := r1.one
  cases ru
  obtain ⟨its, rv, p', hz⟩ := I1.tuple hq
  have hal : a < s1.heap.objs.size := by
    obtain ⟨o, ho, _⟩ := p'
    exact Heap.lt_size ho
  refine call_enumT p' fun h' he hit hk => wpAny_pyIter_enum he ?_
  have I2 : Inv X pins σ H1 { s1 with heap := h' } := I1.kept (t' := s1.toks) hk
  refine ⟨s1.heap.objs.size + 1, [s1.heap.objs.size + 1, s1.heap.objs.size], _, _, H1, rfl, I2, turn_enumT a (s1.heap.objs.size + 1) s1.heap.objs.size, ⟨⟨.none, he⟩, hit, Nat.succ_ne_self _, Nat.ne_of_lt hal, Nat.ne_of_lt (Nat.lt_succ_of_lt hal)⟩, fun b hb => ?_, q⟩
  have hle : s1.heap.objs.size ≤ b := by
    have z : b = s1.heap.objs.size + 1 ∨ b = s1.heap.objs.size := by simpa using hb
    rcases z with z | z <;> rw [z]
    · exact Nat.le_add_right _ _
    · exact Nat.le_refl _
  exact I1.fpOk hle (I1.hok.fresh hle)
end
theorem for_enumT {K : PySem.W.Frag} {a : Addr} {xs : List V} {g : TG} {tb : TS} {D : Ends} {σ : L2.St} {H : Hp} (Pv : Nat → L2.St → Hp → Prop) (h0 : Pv 0 σ H) (hq : ∀ i σ H, Pv i σ H → SqT K H a xs)
    (hs : ∀ (i : Nat) (x : V) (T : Addr) (σ : L2.St) (H : Hp), xs[i]? = some x → Pv i σ H → H T = none → g (.ref T) σ (upd H T (.tup [.int (i : Nat), x])) fun σ2 H2 => tb { D with nx := Pv (i + 1), ct := Pv (i + 1), bk := D.nx } σ2 H2) (hd : ∀ σ H, Pv xs.length σ H → D.nx σ H) :
    ∃ W : Nat → Nat → L2.St → Hp → Prop, (∃ m, W 0 m σ H) ∧ ∀ i m σ H, W i m σ H →
      ((IteT K a).stop i H ∧ D.nx σ H) ∨ ((IteT K a).go i H ∧ ∃ N : L2.St → Hp → Prop, (∀ σ' H', N σ' H' → ∃ m', m' < m ∧ W (i + 1) m' σ' H') ∧ ∀ v H', (IteT K a).yld i H v H' → g v σ H' fun σ2 H2 => tb { D with nx := N, ct := N, bk := D.nx } σ2 H2) := by
  refine ⟨fun i m σ H => m = xs.length - i ∧ i ≤ xs.length ∧ Pv i σ H, ⟨xs.length, rfl, Nat.zero_le _, h0⟩, ?_⟩
  rintro i m σ H ⟨rfl, hi, p⟩
  have q := hq i σ H p
  by_cases hlt : i < xs.length
  · refine .inr ⟨⟨xs, xs[i], q, List.getElem?_eq_getElem hlt⟩, Pv (i + 1), fun σ' H' p' => ⟨xs.length - (i + 1), by omega, rfl, hlt, p'⟩, fun v H' y => ?_⟩
    obtain ⟨T, x', rfl, hT, rfl, f1⟩ := y
    exact hs i x' T σ H (f1 xs q) p hT
  · have e : i = xs.length := by omega
    subst e
    exact .inl ⟨⟨xs, q, rfl⟩, hd σ H p⟩
theorem ned_ints {K : PySem.W.Frag} {H : Hp} {a b : Addr} {ns ms : List Int} {Q : VK} (ha : SqL K H a (ns.map V.int)) (hb : SqL K H b (ms.map V.int)) (q : Q (.bl (!decide (ns = ms))) H) : rNeD K (.ref a) (.ref b) H Q := by
  refine ⟨_, _, .lst ha (dp_ints ns), .lst hb (dp_ints ms), PySem.W.ke_shaped_ints ns, PySem.W.ke_shaped_ints ms, ?_⟩
  have e : PyData.eqv (.list (ns.map PyData.int)) (.list (ms.map PyData.int)) = decide (ns = ms) := by
    rw [PyData.eqv]
    exact eqv_ints ns ms
  rw [e]
  exact q
theorem ixn_of {n j : Nat} {i : Int} (h : j < n) (e : i = (j : Int)) : ixN n i = some j := by
  subst e
  unfold ixN
  simp [h]
abbrev s__law_folded : Stmt := top 25
abbrev N__law_folded : List Str := ["_law_script", "_law_count", "_law_cells", "_law_k", "_law_cell"]
abbrev P__law_folded : List Str := ["_law_script", "_law_count"]
theorem sc__law_folded : FnScope N__law_folded P__law_folded (defScope s__law_folded) := ⟨rfl, rfl, rfl, by decide +kernel, rfl, by decide +kernel, by decide +kernel⟩
def spFold (K : PySem.W.Frag) : Sp := fun vs H Q _ => ∃ (a : Addr) (ns : List Int), vs = [.ref a, .int 3] ∧ SqL K H a (ns.map V.int) ∧ ns.length ≤ 63 ∧ ∀ p (cs : List Int) H', 1 ≤ cs.length → cs.length ≤ 3 → H p = none → Same H H' → H' p = some (.lst (cs.map V.int)) → Q (.ref p) H'
section
variable {P : Program} {w : World} {K : PySem.W.Frag} {mg : Str → Option Value} {base : Heap}
theorem ok_fold {f : Addr} {fd : FuncData} {k : Nat} (F : Fun K "_law_folded" "_law_folded" s__law_folded f fd) (T : Blt mg) : FnOk P w K mg base CX0 (k + 1) f fd P__law_folded (spFold K) := by
  have nd := sc__law_folded.nd
  refine F.ok sc__law_folded (fun vs H Q E h => ?_) (fun cdv A outer s H vs Q E hr h => ?_)
  · obtain ⟨a, ns, rfl, _⟩ := h
    rfl
  · obtain ⟨a, ns, rfl, hL, hlen, q⟩ := h
    refine ⟨_, (pss_cons (ps_set (i := 2) nd rfl (Or.inl rfl) (pe_callTy call_list_of (by rfl) T.b_list (by decide +kernel) (pa_cons (pe_slice (r := rSlL K) sl_list (pv 0) po_none (po_some (pv 1))) pa_nil)))
      (pss_cons (ps_for PassesOwn.never rfl (pi_enum (by rfl) T.b_enumerate (pa_cons (pe_slice (r := rSlL K) sl_list (pv 0) (po_some (pv 1)) (po_some (pe_int))) pa_nil)) (pg_tup (by rfl) (pgs_cons (pg_name (i := 3) nd rfl (Or.inl rfl)) (pgs_cons (pg_name (i := 4) nd rfl (Or.inl rfl)) pgs_nil)))
      (pss_one (ps_asg (pe_op op_add (pe_ix (r := rIxL K) ix_list (pv 2) (pe_op op_mod (pv 3) (pv 1)) (fun _ _ => rfl)) (pe_op op_mul (pv 4) (pe_op op_add (pv 3) (pe_int)))) (pg_sub (pv 2) (pe_op op_mod (pv 3) (pv 1)) set_list))))
      (pss_one (ps_ret (pe_ifExp (pt_cmpR (r := rNeD K) (op_neD hr.units) (pv 2) (pe_lst pa_nil) (nomark _)) (pv 2) (pe_lst (pa_cons (pe_int) pa_nil))))))), ?_⟩
    have e1 : cutV (ns.map V.int) none (some 3) = (ns.take (min 3 ns.length)).map V.int := by
      rw [List.map_take]
      have : cutV (ns.map V.int) none (some 3) = (ns.map V.int).take (min 3 (ns.map V.int).length) := rfl
      rw [this, List.length_map]
    have e2 : cutV (ns.map V.int) (some 3) (some 63) = ((ns.drop (min 3 ns.length)).take (min 63 ns.length - min 3 ns.length)).map V.int := by
      rw [List.map_take, List.map_drop]
      have : cutV (ns.map V.int) (some 3) (some 63) = ((ns.map V.int).drop (min 3 (ns.map V.int).length)).take (min 63 (ns.map V.int).length - min 3 (ns.map V.int).length) := rfl
      rw [this, List.length_map]
    have hl0 : (ns.take (min 3 ns.length)).length = min 3 ns.length := by rw [List.length_take]; omega
    have hl9 : ((ns.drop (min 3 ns.length)).take (min 63 ns.length - min 3 ns.length)).length = ns.length - min 3 ns.length := by
      rw [List.length_take, List.length_drop]
      omega
    generalize (ns.drop (min 3 ns.length)).take (min 63 ns.length - min 3 ns.length) = ms at *
    generalize ns.take (min 3 ns.length) = c0 at *
    walk_at "ev"
    intro p1 hp1
    generalize hG : upd _ p1 _ = H1
    obtain ⟨sm1, hq1⟩ := newO hG hp1
    clear hG
    rw [e1] at hq1
    have hl1 : SqL K H1 p1 (c0.map V.int) ∨ SqT K H1 p1 (c0.map V.int) := .inl (SqL.of hq1)
    walk_at "ev"
    intro p2 hp2
    generalize hG : upd _ p2 _ = H2
    obtain ⟨sm2, hq2⟩ := newO hG hp2
    clear hG
    have sm02 := sm1.trans sm2
    have hL2 := sm02.seq hL
    have hp20 : H p2 = none := sm1.free hp2
    walk_at "ev"
    intro p3 hp3
    generalize hG : upd _ p3 _ = H3
    obtain ⟨sm3, hq3⟩ := newO hG hp3
    clear hG
    rw [e2] at hq3
    have hL3 : SqL K H3 p3 (ms.map V.int) := SqL.of hq3
    have n32 : p3 ≠ p2 := (ne_of_none hq2 hp3).symm
    refine ⟨p3, _, rfl, hL3, for_enumL (K := K) (a := p3) (xs := ms.map V.int) (fun i σ H' => Hold (∃ (cs : List Int) (s3 s4 : Option V), σ = [some (.ref a), some (.int 3), some (.ref p2), s3, s4] ∧ cs.length = min 3 ns.length ∧ Same H H' ∧ H' p3 = some (.lst (ms.map V.int)) ∧ H' p2 = some (.lst (cs.map V.int)))) (.mk ⟨c0, none, none, rfl, hl0, sm02.trans sm3, hq3, sm3 _ _ hq2⟩) ?_ ?_ ?_⟩
    · intro i σ H4 hP
      obtain ⟨cs, s3, s4, rfl, hcl, sm4, h3, h2⟩ := hP.un
      exact SqL.of h3
    · intro i v T' σ H4 hv hP hT
      obtain ⟨cs, s3, s4, rfl, hcl, sm4, h3, h2⟩ := hP.un
      rw [List.getElem?_map] at hv
      obtain ⟨x, hx, ev⟩ := Option.map_eq_some_iff.mp hv
      subst ev
      have hil : i < ms.length := (List.getElem?_eq_some_iff.mp hx).1
      have hc4 : cs.length = 3 := by omega
      generalize hG : upd _ T' _ = H5
      obtain ⟨sm5, hq5⟩ := newO hG hT
      clear hG
      have hT5 : SqT K H5 T' [.int (i : Nat), .int x] := SqT.of hq5
      have h25 := sm5 _ _ h2
      have hL25 : SqL K H5 p2 (cs.map V.int) := SqL.of h25
      have hi4 : i % 3 < cs.length := by omega
      have hat : atI (cs.map V.int) ((i : Int) % 3) = some (.int cs[i % 3]) := at_of (j := i % 3) (by omega) (by rw [List.getElem?_map, List.getElem?_eq_getElem hi4]; rfl)
      have cm : CMul x ((i : Int) + 2) := .inr ⟨by omega, by omega⟩
      have hix : ixN (cs.map V.int).length ((i : Int) % 3) = some (i % 3) := ixn_of (by rw [List.length_map]; exact hi4) (by omega)
      walk_at "ev"
      refine .mk ⟨cs.set (i % 3) (cs[i % 3] + x * ((i : Int) + 2)), _, _, rfl, by rw [List.length_set]; exact hcl, same_mut (sm4.trans sm5) hp20, ?_, ?_⟩
      · rw [upd_ne n32]
        exact sm5 _ _ h3
      · rw [upd_same, List.map_set]
    · intro σ H4 hP
      obtain ⟨cs, s3, s4, rfl, hcl, sm4, h3, h2⟩ := hP.un
      walk_at "ev"
      intro p5 hp5
      generalize hG : upd _ p5 _ = H5
      obtain ⟨sm5, hq5⟩ := newO hG hp5
      clear hG
      have h25 := sm5 _ _ h2
      refine ned_ints (ns := cs) (ms := []) (SqL.of h25) (SqL.of hq5) ?_
      by_cases c : cs = []
      · rw [decide_eq_true c]
        walk_at "ev"
        intro p6 hp6
        generalize hG : upd _ p6 _ = H6
        obtain ⟨sm6, hq6⟩ := newO hG hp6
        exact q p6 [0] _ (by decide) (by decide) ((sm4.trans sm5).free hp6) (sm4.trans (sm5.trans sm6)) hq6
      · rw [decide_eq_false c]
        have hc1 : 0 < cs.length := List.length_pos_iff.mpr c
        walk_at "ev"
        exact q p2 cs _ (by omega) (by omega) hp20 (sm4.trans sm5) h25
end
/-! ### an own exception made by its argument's name -/
section
open PySem PySem.Spec PyProof.Rows PySem.HandSPX
variable {M : Model} {A : Around} {E : Value → Shared → Prop} {h : Heap} {g : Array GenState} {d : Drawn} {t : Nat} {os : OsState}
variable {nm q : Str} {C N : Addr} {bs bm bmB : List Value} {hdct : Bool} {sn : List Str} {sub : List Value} {ab : Bool} {col : Option Bool} {dd : Option Addr} {k0 k1 k2 k3 k5 : Option Value} {B newId initId : String}
theorem check_new_ownK (F : ExcBaseFacts B newId initId bmB) (hT : ∀ X : String, bm.contains (.type X) = bmB.contains (.type X)) {y : Str} {u : Value} {Q : Unit → Shared → Prop}
    (hC : h.get? C = some (excClassObj nm q C N bs bm hdct sn sub ab col dd k0 k1 k2 k3 k5 newId)) (hq : Q () ⟨h, g, d, t, os⟩) : wpAny M A (checkBuiltinCall newId ⟨[.ref C], [(y, u)]⟩) Q E ⟨h, g, d, t, os⟩ := by
  have hcont : (Value.ref C :: bm).contains (.type B) = true := by rw [List.contains_cons, hT, F.hasB, Bool.or_true]
  have hstar := F.noStar
  simp only [checkBuiltinCall, F.newKind, F.newSplit, F.newRow]
  repeat (first | refine wpAny_loadPart_at hC ?_ | (refine wpAny_isSubtype_exc hC ?_; rw [hcont]) | refine wpAny_staticBase_exc hC ?_ | refine wpAny_madeBy_exc hC ?_ | simp only [bne_self_eq_false, Bool.false_eq_true, if_false] | wp_step)
  exact hq
end
section
open PySem PySem.Spec PySem.HandSPX
variable {prog : Program} {w : World} {A : Around} {E : Value → Shared → Prop} {R : Result → Shared → Prop} {h : Heap} {g : Array GenState} {d : Drawn} {t : Nat} {os : OsState}
variable {nm q : Str} {C N : Addr} {bs bm bmB : List Value} {hdct : Bool} {sn : List Str} {sub : List Value} {ab : Bool} {col : Option Bool} {dd : Option Addr} {k0 k1 k2 k3 k5 : Option Value} {B newId initId : String}
theorem new_ownK (F : ExcBaseFacts B newId initId bmB) (hT : ∀ X : String, bm.contains (.type X) = bmB.contains (.type X)) {y : Str} {u : Value}
    (hC : h.get? C = some (excClassObj nm q C N bs bm hdct sn sub ab col dd k0 k1 k2 k3 k5 newId))
    (hq : R (.ok (.ret (.ref (h.objs.size + 1)))) ⟨(h.push { cls := .type "tuple", data := .seq #[] }).push
      { cls := .ref C, data := .fields #[.ref h.objs.size, .none, .none, .none, .bool false, .none] }, g, d, t, os⟩) :
    codeAny (model prog w) A (.builtin newId ⟨[.ref C], [(y, u)]⟩) R ⟨h, g, d, t, os⟩ := by
  have hends := F.ends
  have hcB : (Value.ref C :: bm).contains (.type B) = true := by rw [List.contains_cons, hT, F.hasB, Bool.or_true]
  have hcA : (Value.ref C :: bm).contains (.type "AttributeError") = false := by rw [List.contains_cons, hT, F.noAttr]; rfl
  have hcN : (Value.ref C :: bm).contains (.type "NameError") = false := by rw [List.contains_cons, hT, F.noName]; rfl
  refine codeAny_builtinAt F.entry ?_
  unfold Builtin.«BaseException.__new__»
  refine wpAt_bind ?_
  show wpAt _ _ _ (stack >>= _) _ _ _
  refine wpAt_bind (wpAt_stack fun p below => wpAt_of_wpAny ?_)
  wp_walk
  refine wpAt_of_wpAny ?_
  rw [F.owner]
  repeat (first | with_reducible refine wpAny_madeHere_exc F.canon hC ?_ | with_reducible refine wpAny_loadPart_at hC ?_ | (with_reducible refine wpAny_isSubtype_exc hC ?_; first | rw [hcB] | rw [hcA] | rw [hcN]) | wp_step)
  show R _ _
  rw [Heap.size_push]
  exact hq
theorem type_call_ownK (F : ExcBaseFacts B newId initId bmB) (hT : ∀ X : String, bm.contains (.type X) = bmB.contains (.type X)) {y : Str} {u : Value} {fI : Addr} {Q : Fin → Shared → Prop}
    (hC : h.get? C = some (excClassObj nm q C N bs bm hdct sn sub ab col dd k0 k1 k2 k3 k5 newId))
    (hi : W.Looks (model prog w) h (typeLookup (.ref C) "__init__") (some (.ref fI))) (hb : ∀ self, W.Looks (model prog w) h (bindSpecial (.ref fI) self) (.ref fI, [self]))
    (hq : codeAny (model prog w) A (.call (.ref fI) ⟨[.ref (h.objs.size + 1)], [(y, u)]⟩)
      (fun r s' => match r with | .ok (.ret v) => v = .none ∧ Q (.done (.ret (.ref (h.objs.size + 1)))) s' | .ok _ => False | .error e => E e s')
      ⟨(h.push (W.kdv_tup [])).push (excO C h.objs.size), g, d, t, os⟩) :
    wpAny (model prog w) A (Builtin.«type.__call__» ⟨[.ref C], [(y, u)]⟩) Q E ⟨h, g, d, t, os⟩ := by
  repeat (first | with_reducible refine wpAny_loadPart_at hC ?_ | with_reducible refine wpAny_madeBy_exc hC ?_ | wp_step)
  refine codeAny_call_builtin_code (Code.quiet_builtin _ F.quiet) (check_new_ownK F hT hC ?_)
  refine new_ownK F hT hC ?_
  show wpAny _ _ _ _ _ _
  have k : ∀ b o, h.get? b = some o → ((h.push (W.kdv_tup [])).push (excO C h.objs.size)).get? b = some o := fun b o e => Heap.get?_push_of_some _ (Heap.get?_push_of_some _ e)
  have hC₁ := k _ _ hC
  have hget : ((h.push (W.kdv_tup [])).push (excO C h.objs.size)).get? (h.objs.size + 1) = some (excO C h.objs.size) := by heap_get
  have hcC : (Value.ref C :: bm).contains (.ref C) = true := by simp
  have i1 := hi.keeps k
  have b1 := (hb (.ref (h.objs.size + 1))).keeps k
  unfold isInstance
  repeat (first | with_reducible refine wpAny_loadPart_at hget ?_ | (with_reducible refine wpAny_isSubtype_exc hC₁ ?_; rw [hcC]) | wp_step)
  show wpAny _ _ (typeLookup (.ref C) _) _ _ _
  refine i1.at ?_
  refine wpAny_holding (wpAny_bind (b1.at ?_))
  refine wpAny_bind (wpAny_call (codeAny_mono hq fun r s' z => ?_))
  rcases r with e | (v | _ | _ | _) <;> first | exact z | exact z.elim | skip
  obtain ⟨rfl, z⟩ := z
  first
    | exact wpAny_pure (wpAny_pure z)
    | (wp_walk; exact z)
theorem call_ownK (F : ExcBaseFacts B newId initId bmB) (hT : ∀ X : String, bm.contains (.type X) = bmB.contains (.type X)) {y : Str} {u : Value} {fI : Addr}
    (hC : h.get? C = some (excClassObj nm q C N bs bm hdct sn sub ab col dd k0 k1 k2 k3 k5 newId))
    (hi : W.Looks (model prog w) h (typeLookup (.ref C) "__init__") (some (.ref fI))) (hb : ∀ self, W.Looks (model prog w) h (bindSpecial (.ref fI) self) (.ref fI, [self]))
    (hq : codeAny (model prog w) (A.under (.builtin "type.__call__" ⟨[.ref C], [(y, u)]⟩)) (.call (.ref fI) ⟨[.ref (h.objs.size + 1)], [(y, u)]⟩) (W.InitBack (h.objs.size + 1) R)
      ⟨(h.push (W.kdv_tup [])).push (excO C h.objs.size), g, d, t, os⟩) :
    codeAny (model prog w) A (.call (.ref C) ⟨[], [(y, u)]⟩) R ⟨h, g, d, t, os⟩ := by
  have f1 := tc_lookup
  have f2 := tc_bind (.ref C)
  have hTy : (⟨h, g, d, t, os⟩ : Shared).TypeIs (.ref C) "type" := ⟨_, hC, rfl⟩
  refine codeAny_of_tree ?_
  show wpAny _ _ (callAny (.ref C) _) _ _ _
  repeat (any_goals (first | assumption | with_reducible refine wpAny_loadPart_at hC ?_ | wp_step))
  refine ⟨rfl, ?_⟩
  refine codeAny_call_builtin_at (Code.quiet_builtin _ (by decide +kernel)) entry_typeCall (wpAny_check_type_call_sub hC (type_call_ownK F hT hC hi hb ?_))
  refine codeAny_mono hq fun r s' z => ?_
  rcases r with e | (v | _ | _ | _) <;> exact z
end
section
open PySem PySem.Spec PyProof.Rows
variable {X : Cx}
/-- an exception that is made, kept as a value -/
def tXval (t : L2.St → Hp → XK → Prop) : TE := fun σ H Q => t σ H fun cls d H' => ∃ C dd, cls = .ref C ∧ d = some dd ∧ ∀ a, H' a = none → Q (.ref a) (upd H' a (XOb C dd a))
theorem pe_xval {e : Expr} {t : L2.St → Hp → XK → Prop} (he : PMk X e t) : PE X e (tXval t) := by
  refine ⟨fun pins s σ H Q I h => wpAny_mono (he pins s σ H _ I h) (fun u s1 hu => ?_) fun _ _ z => z⟩
  obtain ⟨a, oe, vs, sI, H', cls, d, rfl, J, k, hne, ha, hz, hd, h1, na, os, ag, r, C, dd, rfl, rfl, q⟩ := hu
  have J1 := J.laidN (t' := s1.toks) k hne na (xob_ok (P := X.prog) (w := X.w) (H := upd H' a (XOb C dd a)) (C := C) (d := dd) ha hz hd)
  exact ⟨.ref a, _, ⟨J1.ok, os.trans J1.os, ag, J1.base, J1.loc, J1.cell, J1.free, J1.freeC, J1.pin, J1.hok, J1.len⟩, rfl, q a na⟩
theorem pmk_oexK {CX : CXT} {x y : Str} {C fI : Addr} {k : Nat} {fd : FuncData} {ps : List Str} {sp : Sp} {kws : List Keyword} {tk : TA} {p pos : Pos} (T : OexC X.K C) (iC : PySem.W.findIn X.K (.ref C) "__init__" = some (some (.ref fI))) (tI : PySem.W.typeIn X.K (.ref fI) = some (.type "function"))
    (F1 : FnOk X.prog X.w X.K X.mg X.base CX k fI fd ps sp) (hr : Room (k + 1) X.A) (hb : ∀ (s : Shared) (a u : Value), BindsTo s fd ⟨[a], [(y, u)]⟩ (ps.zip [a, u])) (hx : Passes CX X (fun _ _ _ => False)) (hg : Gl X x) (hm : X.mg x = some (.ref C))
    (hkw : PK X kws tk) (hall : (backToKw pos (keywordEach kws X.env)).all (·.1.isSome) = true := by rfl) (hks : (backToKw pos (keywordEach kws X.env)).filterMap (·.1) = [y] := by rfl)
    (hdb : (x == ("__debug__" : Str)) = false := by decide) (hpl : ((backTo pos (starEach [] X.env)).any (·.1) || (backToKw pos (keywordEach kws X.env)).any (·.1.isNone)) = false := by rfl) :
    PMk X (.Call (.Name x p) [] kws pos) (fun σ H Q => tk σ H fun zs H1 => ∃ v, zs = [v] ∧ ∀ a, H1 a = none → sp [.ref a, v] (upd H1 a (exo a C none))
      (fun v' H2 => v' = .non ∧ ∃ (d : Addr) (fs : List (Str × V)), H2 a = some (exo a C (some d)) ∧ H2 d = some (exd d fs) ∧ H1 d = none ∧ Q (.ref C) (some d) (upd (del H2 a) d (.xd fs))) (fun _ _ _ => False)) := by
  intro pins s σ H Q I h
  obtain ⟨nm, q, N, bs, bm, sn, sub, ab, col, dd, k0, k1, k2, k3, k5, hC, hbm⟩ := T.cls
  refine wpAny_Call_Name_kw (ld_glob I hg hm ?_ hdb)
  refine PySem.W.callWith_KW0 (h₀ := X.base) I.ok.mod.kin T.kC hall (thn (hkw.run pos pins s σ H _ I h) fun us s1 ⟨zs, H1, I1, r1, v, ez, q1⟩ => ⟨I1.kIn, ?_⟩) hpl
  rw [hks]
  subst ez
  obtain ⟨u, rfl, ru⟩ := vals1 r1
  show wpAny _ _ (call (.ref C) [] [(y, u)]) _ _ _
  obtain ⟨hp, g, dr, tk', os⟩ := s1
  have hsz : hp.objs.size ≤ hp.objs.size + 1 := Nat.le_succ _
  have hn : H1 (hp.objs.size + 1) = none := I1.hok.fresh hsz
  have hq := q1 (hp.objs.size + 1) hn
  have kk : ∀ b o, hp.get? b = some o → ((hp.push (PySem.W.kdv_tup [])).push (PySem.HandSPX.excO C hp.objs.size)).get? b = some o := fun b o e => Heap.get?_push_of_some _ (Heap.get?_push_of_some _ e)
  have hget : ((hp.push (PySem.W.kdv_tup [])).push (PySem.HandSPX.excO C hp.objs.size)).get? (hp.objs.size + 1) = some (PySem.HandSPX.excO C hp.objs.size) := by heap_get
  have I2 : Inv X pins σ (upd H1 (hp.objs.size + 1) (exo (hp.objs.size + 1) C none)) ⟨(hp.push (PySem.W.kdv_tup [])).push (PySem.HandSPX.excO C hp.objs.size), g, dr, tk', os⟩ :=
    I1.laid (t' := tk') (a := hp.objs.size + 1) (o := exo (hp.objs.size + 1) C none) (h' := (hp.push (PySem.W.kdv_tup [])).push (PySem.HandSPX.excO C hp.objs.size)) kk hsz (exo_ok hget)
  have r2 : Vals [V.ref (hp.objs.size + 1), v] [Value.ref (hp.objs.size + 1), u] := .cons rfl (.cons ru .nil)
  refine wpAny_call (call_ownK F.excBase_ValueError (fun Y => PySem.HandSPX.refsVE_contains Y bm hbm) (I1.kIn _ _ hC) (PySem.W.looks_findIn I1.kIn iC) (fun self => PySem.W.bind_fn I1.kIn self tI)
    (codeAny_mono (F1.run _ X.stack _ _ ⟨[Value.ref (hp.objs.size + 1)], [(y, u)]⟩ [Value.ref (hp.objs.size + 1), u] _ _ (fun _ _ _ => False) (hr.make C [] [(y, u)]) (I2.env0.make C [] [(y, u)]) (hb _ _ _) r2 hq) fun r s' hq' => ?_))
  cases r with
  | error er => exact hx pins σ _ _ er s' I2 hq'
  | ok fl =>
    cases fl with
    | ret u =>
      obtain ⟨v, H2, os2, bare2, un2, hok2, rv, ev, d, fs, ea, ed, hd1, q2⟩ := hq'
      subst ev
      obtain ⟨h2, g2, d2, t2, os'⟩ := s'
      exact ⟨rv, mk_end (raises_own T.exC T.tyC) I1 hsz kk un2 hok2 os2 bare2 ea ed hd1 q2⟩
    | next => exact False.elim hq'
    | brk => exact False.elim hq'
    | cont => exact False.elim hq'
end
local macro_rules | `(tactic| walk_at "ev1") => `(tactic| ((first | with_reducible show ClsV _ _ | with_reducible show Paired ClsV _ _); first | exact ClsV.own _ | exact ClsV.ty _ | exact .cons (.own _) (.cons (.own _) .nil) | exact .cons (.own _) (.cons (.own _) (.cons (.own _) .nil))))
/-- a comprehension over enumerate -/
theorem lc_enumL {K : PySem.W.Frag} {a : Addr} {xs : List V} {g : TG} {tt : TT} {te : TE} {vs : List Nat} {σ : L2.St} {H1 : Hp} {D : Addr} {Qd : Hp → Prop} (Pv : Nat → Hp → Prop) (h0 : Pv 0 (upd H1 D (.lst []))) (hq : ∀ i H, Pv i H → SqL K H a xs)
    (hs : ∀ (i : Nat) (x : V) (T : Addr) (H : Hp), xs[i]? = some x → Pv i H → H T = none → g (.ref T) (wipe σ vs) (upd H T (.tup [.int (i : Nat), x])) fun σ2 H2 => wipe σ2 vs = wipe σ vs ∧ tt σ2 H2 fun b H3 =>
      if b = true then te σ2 H3 fun y H4 => ∃ acc, H4 D = some (.lst acc) ∧ acc.length < sizeLine ∧ Pv (i + 1) (upd H4 D (.lst (acc ++ [y]))) else Pv (i + 1) H3) (hd : ∀ H, Pv xs.length H → Qd H) :
    ∃ W : Nat → Nat → Hp → Prop, (∃ m, W 0 m (upd H1 D (.lst []))) ∧ ∀ i m H, W i m H →
      ((Ite K a).stop i H ∧ Qd H) ∨ ((Ite K a).go i H ∧ ∃ Nx : Hp → Prop, (∀ H', Nx H' → ∃ m', m' < m ∧ W (i + 1) m' H') ∧ ∀ x H', (Ite K a).yld i H x H' → g x (wipe σ vs) H' fun σ2 H2 => wipe σ2 vs = wipe σ vs ∧ tt σ2 H2 fun b H3 =>
        if b = true then te σ2 H3 fun y H4 => ∃ acc, H4 D = some (.lst acc) ∧ acc.length < sizeLine ∧ Nx (upd H4 D (.lst (acc ++ [y]))) else Nx H3) := by
  refine ⟨fun i m H => m = xs.length - i ∧ i ≤ xs.length ∧ Pv i H, ⟨xs.length, rfl, Nat.zero_le _, h0⟩, ?_⟩
  rintro i m H ⟨rfl, hi, p⟩
  have q := hq i H p
  by_cases hlt : i < xs.length
  · refine .inr ⟨⟨xs, xs[i], q, List.getElem?_eq_getElem hlt⟩, Pv (i + 1), fun H' p' => ⟨xs.length - (i + 1), by omega, rfl, hlt, p'⟩, fun v H' y => ?_⟩
    obtain ⟨T, x', rfl, hT, rfl, f1⟩ := y
    exact hs i x' T H (f1 xs q) p hT
  · have e : i = xs.length := by omega
    subst e
    exact .inl ⟨⟨xs, q, Nat.le_refl _⟩, hd H p⟩
def xQ (Q : VK) : XK := fun cls d H' => ∃ C dd, cls = .ref C ∧ d = some dd ∧ ∀ a, H' a = none → Q (.ref a) (upd H' a (XOb C dd a))
def tXv (t : L2.St → Hp → XK → Prop) : TE := fun σ H Q => t σ H (xQ Q)
theorem pe_xv {X : Cx} {e : Expr} {t : L2.St → Hp → XK → Prop} (he : PMk X e t) : PE X e (tXv t) := pe_xval he
theorem xv {K : PySem.W.Frag} {C : Addr} {v : V} {Q : VK} {H1 : Hp} (E : ExK K C) (h : ∀ e H', H1 e = none → Same H1 H' → XAt H' e C [(("what" : Str), v)] → Q (.ref e) H') : ∀ d H', H1 d = none → Same H1 H' → H' d = some (.xd [(("what" : Str), v)]) → xQ Q (.ref C) (some d) H' := by
  intro d H' hd sm hq
  refine ⟨C, d, rfl, rfl, fun a ha => ?_⟩
  exact h a _ (sm.free ha) (sm.trans (same_new ha)) ⟨d, upd_same, by rw [upd_ne (ne_of_none hq ha)]; exact hq⟩
theorem xmk {K : PySem.W.Frag} {C : Addr} {v : V} {Q : VK} {H1 : Hp} (E : ExK K C) (h : ∀ e H', H1 e = none → Same H1 H' → XAt H' e C [(("what" : Str), v)] → Q (.ref e) H') : ∀ a, H1 a = none → spInit K (.ref a :: ([v] ++ [])) (upd H1 a (exo a C none))
    (fun v' H2 => v' = .non ∧ ∃ (d : Addr) (fs : List (Str × V)), H2 a = some (exo a C (some d)) ∧ H2 d = some (exd d fs) ∧ H1 d = none ∧ xQ Q (.ref C) (some d) (upd (del H2 a) d (.xd fs))) (fun _ _ _ => False) := mk_what (Q := xQ Q) E (xv E h)
structure X15 (K : PySem.W.Frag) (mg : Str → Option Value) (CT fI : Addr) (fdI : FuncData) (c0 c1 c2 c3 c4 c5 c6 c7 c8 c9 c10 c11 c12 c13 c14 : Addr) : Prop where
  FI : Fun K "__init__" "TurnError.__init__" s_init fI fdI
  I_b : Binds K fdI N_init []
  I_ty : PySem.W.typeIn K (.ref fI) = some (.type "function")
  RT : Ref K CT CT fI
  mT : mg "TurnError" = some (.ref CT)
  R0 : Ref K CT c0 fI
  m0 : mg "NoInverse" = some (.ref c0)
  R1 : Ref K CT c1 fI
  m1 : mg "NotCoprime" = some (.ref c1)
  R2 : Ref K CT c2 fI
  m2 : mg "BadGround" = some (.ref c2)
  R3 : Ref K CT c3 fI
  m3 : mg "NoRoot" = some (.ref c3)
  R4 : Ref K CT c4 fI
  m4 : mg "NoShare" = some (.ref c4)
  R5 : Ref K CT c5 fI
  m5 : mg "BadLength" = some (.ref c5)
  R6 : Ref K CT c6 fI
  m6 : mg "BadText" = some (.ref c6)
  R7 : Ref K CT c7 fI
  m7 : mg "BadStep" = some (.ref c7)
  R8 : Ref K CT c8 fI
  m8 : mg "NotDone" = some (.ref c8)
  R9 : Ref K CT c9 fI
  m9 : mg "TooSmall" = some (.ref c9)
  R10 : Ref K CT c10 fI
  m10 : mg "BadOrder" = some (.ref c10)
  R11 : Ref K CT c11 fI
  m11 : mg "NotEven" = some (.ref c11)
  R12 : Ref K CT c12 fI
  m12 : mg "NotKept" = some (.ref c12)
  R13 : Ref K CT c13 fI
  m13 : mg "BadDeed" = some (.ref c13)
  R14 : Ref K CT c14 fI
  m14 : mg "BadLine" = some (.ref c14)
  kit : ([c0, c1, c2, c3, c4, c5, c6, c7, c8, c9, c10, c11, c12, c13, c14].map fun c => [c0, c1, c2, c3, c4, c5, c6, c7, c8, c9, c10, c11, c12, c13, c14].map fun d => PySem.W.kitOne K (.ref c) (.ref d)) = (List.range 15).map fun i => (List.range 15).map fun j => some (decide (i = j))
  kt : ([c0, c1, c2, c3, c4, c5, c6, c7, c8, c9, c10, c11, c12, c13, c14].map fun d => PySem.W.kitOne K (.ref CT) (.ref d)) = List.replicate 15 (some false)
abbrev s__law_marks : Stmt := top 27
abbrev N__law_marks : List Str := ["_law_error", "_law_marks_here", "_law_k", "_law_one"]
abbrev P__law_marks : List Str := ["_law_error"]
theorem sc__law_marks : FnScope N__law_marks P__law_marks (defScope s__law_marks) := ⟨rfl, rfl, rfl, by decide +kernel, rfl, by decide +kernel, by decide +kernel⟩
def idxs (bs : List Bool) : List Int := (bs.zipIdx.filter (·.1)).map fun x => (x.2 : Int)
def spMarks (K : PySem.W.Frag) (cs : List Addr) : Sp := fun vs H Q _ => ∃ (e C : Addr) (fs : List (Str × V)) (bs : List Bool), vs = [.ref e] ∧ XAt H e C fs ∧ ExK K C ∧ bs.length = 15 ∧ (cs.map fun d => PySem.W.kitOne K (.ref C) (.ref d)) = bs.map some ∧ ∀ p H', H p = none → Same H H' → H' p = some (.lst ((idxs bs).map V.int)) → Q (.ref p) H'
section
variable {P : Program} {w : World} {K : PySem.W.Frag} {mg : Str → Option Value} {base : Heap}
theorem ok_marks {f CT fI c0 c1 c2 c3 c4 c5 c6 c7 c8 c9 c10 c11 c12 c13 c14 : Addr} {fd fdI : FuncData} {k : Nat} (F : Fun K "_law_marks" "_law_marks" s__law_marks f fd) (T : Blt mg) (S : X15 K mg CT fI fdI c0 c1 c2 c3 c4 c5 c6 c7 c8 c9 c10 c11 c12 c13 c14) : FnOk P w K mg base CX0 (k + 1) f fd P__law_marks (spMarks K [c0, c1, c2, c3, c4, c5, c6, c7, c8, c9, c10, c11, c12, c13, c14]) := by
  have M_NoInverse := S.m0
  have M_NotCoprime := S.m1
  have M_BadGround := S.m2
  have M_NoRoot := S.m3
  have M_NoShare := S.m4
  have M_BadLength := S.m5
  have M_BadText := S.m6
  have M_BadStep := S.m7
  have M_NotDone := S.m8
  have M_TooSmall := S.m9
  have M_BadOrder := S.m10
  have M_NotEven := S.m11
  have M_NotKept := S.m12
  have M_BadDeed := S.m13
  have M_BadLine := S.m14
  have nd := sc__law_marks.nd
  refine F.ok sc__law_marks (fun vs H Q E h => ?_) (fun cdv A outer s H vs Q E hr h => ?_)
  · obtain ⟨e, C, fs, bs, rfl, _⟩ := h
    rfl
  · obtain ⟨e, C, fs, bs, rfl, hx, ek, hbl, hkit, q⟩ := h
    refine ⟨_, (pss_cons (ps_set (i := 1) nd rfl (Or.inl rfl) (pe_lst (pa_cons (pe_callB (r := rIsX K) call_isX (by rfl) T.b_isinstance (by decide +kernel) (pa_cons (pv 0) (pa_cons (pe_glob (v := .ref _) (by rfl) M_NoInverse rfl) pa_nil))) (pa_cons (pe_callB (r := rIsX K) call_isX (by rfl) T.b_isinstance (by decide +kernel) (pa_cons (pv 0) (pa_cons (pe_glob (v := .ref _) (by rfl) M_NotCoprime rfl) pa_nil))) (pa_cons (pe_callB (r := rIsX K) call_isX (by rfl) T.b_isinstance (by decide +kernel) (pa_cons (pv 0) (pa_cons (pe_glob (v := .ref _) (by rfl) M_BadGround rfl) pa_nil))) pa_nil)))))
      (pss_cons (ps_set (i := 1) nd rfl (Or.inl rfl) (pe_op op_cat (pv 1) (pe_lst (pa_cons (pe_callB (r := rIsX K) call_isX (by rfl) T.b_isinstance (by decide +kernel) (pa_cons (pv 0) (pa_cons (pe_glob (v := .ref _) (by rfl) M_NoRoot rfl) pa_nil))) (pa_cons (pe_callB (r := rIsX K) call_isX (by rfl) T.b_isinstance (by decide +kernel) (pa_cons (pv 0) (pa_cons (pe_glob (v := .ref _) (by rfl) M_NoShare rfl) pa_nil))) (pa_cons (pe_callB (r := rIsX K) call_isX (by rfl) T.b_isinstance (by decide +kernel) (pa_cons (pv 0) (pa_cons (pe_glob (v := .ref _) (by rfl) M_BadLength rfl) pa_nil))) pa_nil))))))
      (pss_cons (ps_set (i := 1) nd rfl (Or.inl rfl) (pe_op op_cat (pv 1) (pe_lst (pa_cons (pe_callB (r := rIsX K) call_isX (by rfl) T.b_isinstance (by decide +kernel) (pa_cons (pv 0) (pa_cons (pe_glob (v := .ref _) (by rfl) M_BadText rfl) pa_nil))) (pa_cons (pe_callB (r := rIsX K) call_isX (by rfl) T.b_isinstance (by decide +kernel) (pa_cons (pv 0) (pa_cons (pe_glob (v := .ref _) (by rfl) M_BadStep rfl) pa_nil))) (pa_cons (pe_callB (r := rIsX K) call_isX (by rfl) T.b_isinstance (by decide +kernel) (pa_cons (pv 0) (pa_cons (pe_glob (v := .ref _) (by rfl) M_NotDone rfl) pa_nil))) pa_nil))))))
      (pss_cons (ps_set (i := 1) nd rfl (Or.inl rfl) (pe_op op_cat (pv 1) (pe_lst (pa_cons (pe_callB (r := rIsX K) call_isX (by rfl) T.b_isinstance (by decide +kernel) (pa_cons (pv 0) (pa_cons (pe_glob (v := .ref _) (by rfl) M_TooSmall rfl) pa_nil))) (pa_cons (pe_callB (r := rIsX K) call_isX (by rfl) T.b_isinstance (by decide +kernel) (pa_cons (pv 0) (pa_cons (pe_glob (v := .ref _) (by rfl) M_BadOrder rfl) pa_nil))) (pa_cons (pe_callB (r := rIsX K) call_isX (by rfl) T.b_isinstance (by decide +kernel) (pa_cons (pv 0) (pa_cons (pe_glob (v := .ref _) (by rfl) M_NotEven rfl) pa_nil))) pa_nil))))))
      (pss_cons (ps_set (i := 1) nd rfl (Or.inl rfl) (pe_op op_cat (pv 1) (pe_lst (pa_cons (pe_callB (r := rIsX K) call_isX (by rfl) T.b_isinstance (by decide +kernel) (pa_cons (pv 0) (pa_cons (pe_glob (v := .ref _) (by rfl) M_NotKept rfl) pa_nil))) (pa_cons (pe_callB (r := rIsX K) call_isX (by rfl) T.b_isinstance (by decide +kernel) (pa_cons (pv 0) (pa_cons (pe_glob (v := .ref _) (by rfl) M_BadDeed rfl) pa_nil))) (pa_cons (pe_callB (r := rIsX K) call_isX (by rfl) T.b_isinstance (by decide +kernel) (pa_cons (pv 0) (pa_cons (pe_glob (v := .ref _) (by rfl) M_BadLine rfl) pa_nil))) pa_nil))))))
      (pss_one (ps_ret (pe_lc (own := [("_law_k", 2), ("_law_one", 3)]) (g := gTup K 2 (gCons (gName 2) (gCons (gName 3) gNil))) (by rfl) nd (pi_enum (by rfl) T.b_enumerate (pa_cons (pv 1) pa_nil)) (blkOk_by (own := [("_law_k", 2), ("_law_one", 3)]) (N := N__law_marks) (sc := defScope s__law_marks) (by decide +kernel)) (fun _ _ _ _ _ => (pg_tup (by rfl) (pgs_cons (pg_name (i := 2) nd rfl (Or.inl rfl)) (pgs_cons (pg_name (i := 3) nd rfl (Or.inl rfl)) pgs_nil)))) (fun _ _ _ _ _ => pts_one (pt_val (pv 3))) (fun _ _ _ _ _ => (pv 2)))))))))), ?_⟩
    obtain ⟨b0, b1, b2, b3, b4, b5, b6, b7, b8, b9, b10, b11, b12, b13, b14, rfl⟩ : ∃ b0 b1 b2 b3 b4 b5 b6 b7 b8 b9 b10 b11 b12 b13 b14, bs = [b0, b1, b2, b3, b4, b5, b6, b7, b8, b9, b10, b11, b12, b13, b14] := by
      match bs, hbl with
      | [b0, b1, b2, b3, b4, b5, b6, b7, b8, b9, b10, b11, b12, b13, b14], _ => exact ⟨b0, b1, b2, b3, b4, b5, b6, b7, b8, b9, b10, b11, b12, b13, b14, rfl⟩
    simp only [List.map_cons, List.map_nil, List.cons.injEq, and_true] at hkit
    obtain ⟨k0, k1, k2, k3, k4, k5, k6, k7, k8, k9, k10, k11, k12, k13, k14⟩ := hkit
    walk_at "ev"
    w_cond _1
    have hxx1 := hx.same sm1
    walk_at "ev"
    w_cond _2
    have hc2 := sm2 _ _ hq1
    walk_at "ev"
    w_cond _3
    have hxx3 := hx.same (sm1.trans (sm2.trans sm3))
    walk_at "ev"
    w_cond _4
    have hc4 := sm4 _ _ hq3
    walk_at "ev"
    w_cond _5
    have hxx5 := hx.same (sm1.trans (sm2.trans (sm3.trans (sm4.trans sm5))))
    walk_at "ev"
    w_cond _6
    have hc6 := sm6 _ _ hq5
    walk_at "ev"
    w_cond _7
    have hxx7 := hx.same (sm1.trans (sm2.trans (sm3.trans (sm4.trans (sm5.trans (sm6.trans sm7))))))
    walk_at "ev"
    w_cond _8
    have hc8 := sm8 _ _ hq7
    walk_at "ev"
    w_cond _9
    have s0 : Same H H9 := (sm1.trans (sm2.trans (sm3.trans (sm4.trans (sm5.trans (sm6.trans (sm7.trans (sm8.trans sm9))))))))
    have hq' : H9 l9 = some (.lst ([b0, b1, b2, b3, b4, b5, b6, b7, b8, b9, b10, b11, b12, b13, b14].map V.bl)) := hq9
    generalize hB : [b0, b1, b2, b3, b4, b5, b6, b7, b8, b9, b10, b11, b12, b13, b14] = bs at *
    have hbl' : bs.length = 15 := hbl
    have hL := SqL.of (K := K) hq'
    walk_at "ev"
    intro D hD
    refine lc_enumL (K := K) (a := l9) (xs := bs.map V.bl) (fun i H' => Hold (Same H9 H' ∧ H' D = some (.lst ((((bs.zipIdx.take i).filter (·.1)).map fun x => (x.2 : Int)).map V.int)))) (.mk ⟨same_new hD, upd_same⟩) ?_ ?_ ?_
    · intro i Hx hP
      obtain ⟨smx, hDx⟩ := hP.un
      exact smx.seq hL
    · intro i v T' Hx hv hP hT
      obtain ⟨smx, hDx⟩ := hP.un
      rw [List.getElem?_map] at hv
      obtain ⟨y, hy, ev⟩ := Option.map_eq_some_iff.mp hv
      subst ev
      have hil : i < bs.length := (List.getElem?_eq_some_iff.mp hy).1
      have hzi : bs.zipIdx[i]? = some (y, i) := by
        rw [List.getElem?_zipIdx, hy]
        simp
      generalize hG : upd _ T' _ = Hy
      obtain ⟨smy, hqy⟩ := newO hG hT
      clear hG
      have hTy : SqT K Hy T' [.int (i : Nat), .bl y] := SqT.of hqy
      have hDy := smy _ _ hDx
      have hsz : ((((bs.zipIdx.take i).filter (·.1)).map fun x => (x.2 : Int)).map V.int).length < sizeLine := szm (by
        rw [List.length_map, List.length_map]
        have := List.length_filter_le (·.1) (bs.zipIdx.take i)
        rw [List.length_take, List.length_zipIdx] at this
        omega)
      cases y with
      | true =>
        walk_at "ev"
        refine .mk ⟨same_mut (smx.trans smy) hD, ?_⟩
        rw [upd_same, List.take_add_one, hzi, List.filter_append, List.map_append, List.map_append]
        rfl
      | false =>
        walk_at "ev"
        refine .mk ⟨smx.trans smy, ?_⟩
        rw [hDy, List.take_add_one, hzi, List.filter_append, List.map_append, List.map_append]
        show _ = some (HO.lst (_ ++ []))
        rw [List.append_nil]
    · intro Hx hP
      obtain ⟨smx, hDx⟩ := hP.un
      have ez : (bs.map V.bl).length = bs.zipIdx.length := by rw [List.length_map, List.length_zipIdx]
      rw [ez, List.take_length] at hDx
      exact q D Hx (s0.free hD) (s0.trans smx) hDx
end
def spAll (cs : List Addr) : Sp := fun vs H Q _ => ∃ v, vs = [v] ∧ ∀ p (es : List Addr) H', H p = none → Same H H' → es.length = 15 → (∀ (i : Nat) (e C : Addr), es[i]? = some e → cs[i]? = some C → XAt H' e C [(("what" : Str), v)]) → H' p = some (.lst (es.map V.ref)) → Q (.ref p) H'
theorem kbI {K : PySem.W.Frag} {fI : Addr} {fdI : FuncData} (F : Fun K "__init__" "TurnError.__init__" s_init fI fdI) : ∀ (s : Shared) (a u : Value), BindsTo s fdI ⟨[a], [(("what" : Str), u)]⟩ (N_init.zip [a, u]) := by
  obtain ⟨oc, od, kV, doc, pm, an, cdv, ct, osl, rfl, lk, hcd⟩ := F.ex
  exact fun s a u => .of_eq rfl
abbrev s__law_all : Stmt := top 28
abbrev N__law_all : List Str := ["_law_thing", "_law_found"]
abbrev P__law_all : List Str := ["_law_thing"]
theorem sc__law_all : FnScope N__law_all P__law_all (defScope s__law_all) := ⟨rfl, rfl, rfl, by decide +kernel, rfl, by decide +kernel, by decide +kernel⟩
section
variable {P : Program} {w : World} {K : PySem.W.Frag} {mg : Str → Option Value} {base : Heap}
theorem ok_all {f CT fI c0 c1 c2 c3 c4 c5 c6 c7 c8 c9 c10 c11 c12 c13 c14 : Addr} {fd fdI : FuncData} {k : Nat} (F : Fun K "_law_all" "_law_all" s__law_all f fd) (T : Blt mg) (S : X15 K mg CT fI fdI c0 c1 c2 c3 c4 c5 c6 c7 c8 c9 c10 c11 c12 c13 c14) : FnOk P w K mg base CX0 (k + 4) f fd P__law_all (spAll [c0, c1, c2, c3, c4, c5, c6, c7, c8, c9, c10, c11, c12, c13, c14]) := by
  have G_init : FnOk P w K mg base CX0 1 fI fdI N_init (spInit K) := ok_init S.FI
  have I_b := S.I_b
  have I_ty := S.I_ty
  have I_bk := kbI S.FI
  have M_NoInverse := S.m0
  have EK_NoInverse := S.R0.ek
  have II_NoInverse := S.R0.ini
  have M_NotCoprime := S.m1
  have EK_NotCoprime := S.R1.ek
  have II_NotCoprime := S.R1.ini
  have M_BadGround := S.m2
  have EK_BadGround := S.R2.ek
  have II_BadGround := S.R2.ini
  have M_NoRoot := S.m3
  have EK_NoRoot := S.R3.ek
  have II_NoRoot := S.R3.ini
  have M_NoShare := S.m4
  have EK_NoShare := S.R4.ek
  have II_NoShare := S.R4.ini
  have M_BadLength := S.m5
  have EK_BadLength := S.R5.ek
  have II_BadLength := S.R5.ini
  have M_BadText := S.m6
  have EK_BadText := S.R6.ek
  have II_BadText := S.R6.ini
  have M_BadStep := S.m7
  have EK_BadStep := S.R7.ek
  have II_BadStep := S.R7.ini
  have M_NotDone := S.m8
  have EK_NotDone := S.R8.ek
  have II_NotDone := S.R8.ini
  have M_TooSmall := S.m9
  have EK_TooSmall := S.R9.ek
  have II_TooSmall := S.R9.ini
  have M_BadOrder := S.m10
  have EK_BadOrder := S.R10.ek
  have II_BadOrder := S.R10.ini
  have M_NotEven := S.m11
  have EK_NotEven := S.R11.ek
  have II_NotEven := S.R11.ini
  have M_NotKept := S.m12
  have EK_NotKept := S.R12.ek
  have II_NotKept := S.R12.ini
  have M_BadDeed := S.m13
  have EK_BadDeed := S.R13.ek
  have II_BadDeed := S.R13.ini
  have M_BadLine := S.m14
  have EK_BadLine := S.R14.ek
  have II_BadLine := S.R14.ini
  have nd := sc__law_all.nd
  refine F.ok sc__law_all (fun vs H Q E h => ?_) (fun cdv A outer s H vs Q E hr h => ?_)
  · obtain ⟨v, rfl, _⟩ := h
    rfl
  · obtain ⟨v, rfl, q⟩ := h
    refine ⟨_, (pss_cons (ps_set (i := 1) nd rfl (Or.inl rfl) (pe_lst (pa_cons (pe_xv (pmk_oex EK_NoInverse.oex II_NoInverse I_ty G_init (hr.mono (by omega)) I_b .nil pass0 (by rfl) M_NoInverse (pa_cons (pv 0) pa_nil))) (pa_cons (pe_xv (pmk_oex EK_NotCoprime.oex II_NotCoprime I_ty G_init (hr.mono (by omega)) I_b .nil pass0 (by rfl) M_NotCoprime (pa_cons (pv 0) pa_nil))) (pa_cons (pe_xv (pmk_oex EK_BadGround.oex II_BadGround I_ty G_init (hr.mono (by omega)) I_b .nil pass0 (by rfl) M_BadGround (pa_cons (pv 0) pa_nil))) (pa_cons (pe_xv (pmk_oex EK_NoRoot.oex II_NoRoot I_ty G_init (hr.mono (by omega)) I_b .nil pass0 (by rfl) M_NoRoot (pa_cons (pv 0) pa_nil))) (pa_cons (pe_xv (pmk_oex EK_NoShare.oex II_NoShare I_ty G_init (hr.mono (by omega)) I_b .nil pass0 (by rfl) M_NoShare (pa_cons (pv 0) pa_nil))) (pa_cons (pe_xv (pmk_oex EK_BadLength.oex II_BadLength I_ty G_init (hr.mono (by omega)) I_b .nil pass0 (by rfl) M_BadLength (pa_cons (pv 0) pa_nil))) pa_nil))))))))
      (pss_cons (ps_set (i := 1) nd rfl (Or.inl rfl) (pe_op op_cat (pv 1) (pe_lst (pa_cons (pe_xv (pmk_oex EK_BadText.oex II_BadText I_ty G_init (hr.mono (by omega)) I_b .nil pass0 (by rfl) M_BadText (pa_cons (pv 0) pa_nil))) (pa_cons (pe_xv (pmk_oex EK_BadStep.oex II_BadStep I_ty G_init (hr.mono (by omega)) I_b .nil pass0 (by rfl) M_BadStep (pa_cons (pv 0) pa_nil))) (pa_cons (pe_xv (pmk_oex EK_NotDone.oex II_NotDone I_ty G_init (hr.mono (by omega)) I_b .nil pass0 (by rfl) M_NotDone (pa_cons (pv 0) pa_nil))) (pa_cons (pe_xv (pmk_oex EK_TooSmall.oex II_TooSmall I_ty G_init (hr.mono (by omega)) I_b .nil pass0 (by rfl) M_TooSmall (pa_cons (pv 0) pa_nil))) (pa_cons (pe_xv (pmk_oex EK_BadOrder.oex II_BadOrder I_ty G_init (hr.mono (by omega)) I_b .nil pass0 (by rfl) M_BadOrder (pa_cons (pv 0) pa_nil))) pa_nil))))))))
      (pss_one (ps_ret (pe_op op_cat (pv 1) (pe_lst (pa_cons (pe_xv (pmk_oex EK_NotEven.oex II_NotEven I_ty G_init (hr.mono (by omega)) I_b .nil pass0 (by rfl) M_NotEven (pa_cons (pv 0) pa_nil))) (pa_cons (pe_xv (pmk_oex EK_NotKept.oex II_NotKept I_ty G_init (hr.mono (by omega)) I_b .nil pass0 (by rfl) M_NotKept (pa_cons (pv 0) pa_nil))) (pa_cons (pe_xv (pmk_oex EK_BadDeed.oex II_BadDeed I_ty G_init (hr.mono (by omega)) I_b .nil pass0 (by rfl) M_BadDeed (pa_cons (pv 0) pa_nil))) (pa_cons (pe_xv (pmk_oex EK_BadLine.oex II_BadLine I_ty G_init (hr.mono (by omega)) I_b .nil pass0 (by rfl) M_BadLine (pa_cons (pv 0) pa_nil))) pa_nil)))))))))), ?_⟩
    walk_at "ev"
    refine xmk S.R0.ek fun e0 H1 he0 sm1 hx0 => ?_
    walk_at "ev"
    refine xmk S.R1.ek fun e1 H2 he1 sm2 hx1 => ?_
    walk_at "ev"
    refine xmk S.R2.ek fun e2 H3 he2 sm3 hx2 => ?_
    walk_at "ev"
    refine xmk S.R3.ek fun e3 H4 he3 sm4 hx3 => ?_
    walk_at "ev"
    refine xmk S.R4.ek fun e4 H5 he4 sm5 hx4 => ?_
    walk_at "ev"
    refine xmk S.R5.ek fun e5 H6 he5 sm6 hx5 => ?_
    walk_at "ev"
    w_cond _7
    walk_at "ev"
    refine xmk S.R6.ek fun e6 H8 he6 sm8 hx6 => ?_
    walk_at "ev"
    refine xmk S.R7.ek fun e7 H9 he7 sm9 hx7 => ?_
    walk_at "ev"
    refine xmk S.R8.ek fun e8 H10 he8 sm10 hx8 => ?_
    walk_at "ev"
    refine xmk S.R9.ek fun e9 H11 he9 sm11 hx9 => ?_
    walk_at "ev"
    refine xmk S.R10.ek fun e10 H12 he10 sm12 hx10 => ?_
    walk_at "ev"
    w_cond _13
    have hc13 := (sm8.trans (sm9.trans (sm10.trans (sm11.trans (sm12.trans sm13))))) _ _ hq7
    walk_at "ev"
    w_cond _14
    walk_at "ev"
    refine xmk S.R11.ek fun e11 H15 he11 sm15 hx11 => ?_
    walk_at "ev"
    refine xmk S.R12.ek fun e12 H16 he12 sm16 hx12 => ?_
    walk_at "ev"
    refine xmk S.R13.ek fun e13 H17 he13 sm17 hx13 => ?_
    walk_at "ev"
    refine xmk S.R14.ek fun e14 H18 he14 sm18 hx14 => ?_
    walk_at "ev"
    w_cond _19
    have hc19 := (sm15.trans (sm16.trans (sm17.trans (sm18.trans sm19)))) _ _ hq14
    walk_at "ev"
    w_cond _20
    have s0 : Same H H20 := (sm1.trans (sm2.trans (sm3.trans (sm4.trans (sm5.trans (sm6.trans (sm7.trans (sm8.trans (sm9.trans (sm10.trans (sm11.trans (sm12.trans (sm13.trans (sm14.trans (sm15.trans (sm16.trans (sm17.trans (sm18.trans (sm19.trans sm20)))))))))))))))))))
    refine q l20 [e0, e1, e2, e3, e4, e5, e6, e7, e8, e9, e10, e11, e12, e13, e14] H20 ((sm1.trans (sm2.trans (sm3.trans (sm4.trans (sm5.trans (sm6.trans (sm7.trans (sm8.trans (sm9.trans (sm10.trans (sm11.trans (sm12.trans (sm13.trans (sm14.trans (sm15.trans (sm16.trans (sm17.trans (sm18.trans sm19)))))))))))))))))).free hl20) s0 rfl (fun i e C he hC => ?_) hq20
    have g0 := hx0.same (sm2.trans (sm3.trans (sm4.trans (sm5.trans (sm6.trans (sm7.trans (sm8.trans (sm9.trans (sm10.trans (sm11.trans (sm12.trans (sm13.trans (sm14.trans (sm15.trans (sm16.trans (sm17.trans (sm18.trans (sm19.trans sm20))))))))))))))))))
    have g1 := hx1.same (sm3.trans (sm4.trans (sm5.trans (sm6.trans (sm7.trans (sm8.trans (sm9.trans (sm10.trans (sm11.trans (sm12.trans (sm13.trans (sm14.trans (sm15.trans (sm16.trans (sm17.trans (sm18.trans (sm19.trans sm20)))))))))))))))))
    have g2 := hx2.same (sm4.trans (sm5.trans (sm6.trans (sm7.trans (sm8.trans (sm9.trans (sm10.trans (sm11.trans (sm12.trans (sm13.trans (sm14.trans (sm15.trans (sm16.trans (sm17.trans (sm18.trans (sm19.trans sm20))))))))))))))))
    have g3 := hx3.same (sm5.trans (sm6.trans (sm7.trans (sm8.trans (sm9.trans (sm10.trans (sm11.trans (sm12.trans (sm13.trans (sm14.trans (sm15.trans (sm16.trans (sm17.trans (sm18.trans (sm19.trans sm20)))))))))))))))
    have g4 := hx4.same (sm6.trans (sm7.trans (sm8.trans (sm9.trans (sm10.trans (sm11.trans (sm12.trans (sm13.trans (sm14.trans (sm15.trans (sm16.trans (sm17.trans (sm18.trans (sm19.trans sm20))))))))))))))
    have g5 := hx5.same (sm7.trans (sm8.trans (sm9.trans (sm10.trans (sm11.trans (sm12.trans (sm13.trans (sm14.trans (sm15.trans (sm16.trans (sm17.trans (sm18.trans (sm19.trans sm20)))))))))))))
    have g6 := hx6.same (sm9.trans (sm10.trans (sm11.trans (sm12.trans (sm13.trans (sm14.trans (sm15.trans (sm16.trans (sm17.trans (sm18.trans (sm19.trans sm20)))))))))))
    have g7 := hx7.same (sm10.trans (sm11.trans (sm12.trans (sm13.trans (sm14.trans (sm15.trans (sm16.trans (sm17.trans (sm18.trans (sm19.trans sm20))))))))))
    have g8 := hx8.same (sm11.trans (sm12.trans (sm13.trans (sm14.trans (sm15.trans (sm16.trans (sm17.trans (sm18.trans (sm19.trans sm20)))))))))
    have g9 := hx9.same (sm12.trans (sm13.trans (sm14.trans (sm15.trans (sm16.trans (sm17.trans (sm18.trans (sm19.trans sm20))))))))
    have g10 := hx10.same (sm13.trans (sm14.trans (sm15.trans (sm16.trans (sm17.trans (sm18.trans (sm19.trans sm20)))))))
    have g11 := hx11.same (sm16.trans (sm17.trans (sm18.trans (sm19.trans sm20))))
    have g12 := hx12.same (sm17.trans (sm18.trans (sm19.trans sm20)))
    have g13 := hx13.same (sm18.trans (sm19.trans sm20))
    have g14 := hx14.same (sm19.trans sm20)
    match i, he, hC with
    | 0, he, hC => cases he; cases hC; exact g0
    | 1, he, hC => cases he; cases hC; exact g1
    | 2, he, hC => cases he; cases hC; exact g2
    | 3, he, hC => cases he; cases hC; exact g3
    | 4, he, hC => cases he; cases hC; exact g4
    | 5, he, hC => cases he; cases hC; exact g5
    | 6, he, hC => cases he; cases hC; exact g6
    | 7, he, hC => cases he; cases hC; exact g7
    | 8, he, hC => cases he; cases hC; exact g8
    | 9, he, hC => cases he; cases hC; exact g9
    | 10, he, hC => cases he; cases hC; exact g10
    | 11, he, hC => cases he; cases hC; exact g11
    | 12, he, hC => cases he; cases hC; exact g12
    | 13, he, hC => cases he; cases hC; exact g13
    | 14, he, hC => cases he; cases hC; exact g14
    | i + 15, he, hC => cases he
end
abbrev s__law_all_named : Stmt := top 29
abbrev N__law_all_named : List Str := ["_law_thing", "_law_found"]
abbrev P__law_all_named : List Str := ["_law_thing"]
theorem sc__law_all_named : FnScope N__law_all_named P__law_all_named (defScope s__law_all_named) := ⟨rfl, rfl, rfl, by decide +kernel, rfl, by decide +kernel, by decide +kernel⟩
section
variable {P : Program} {w : World} {K : PySem.W.Frag} {mg : Str → Option Value} {base : Heap}
theorem ok_named {f CT fI c0 c1 c2 c3 c4 c5 c6 c7 c8 c9 c10 c11 c12 c13 c14 : Addr} {fd fdI : FuncData} {k : Nat} (F : Fun K "_law_all_named" "_law_all_named" s__law_all_named f fd) (T : Blt mg) (S : X15 K mg CT fI fdI c0 c1 c2 c3 c4 c5 c6 c7 c8 c9 c10 c11 c12 c13 c14) : FnOk P w K mg base CX0 (k + 4) f fd P__law_all_named (spAll [c0, c1, c2, c3, c4, c5, c6, c7, c8, c9, c10, c11, c12, c13, c14]) := by
  have G_init : FnOk P w K mg base CX0 1 fI fdI N_init (spInit K) := ok_init S.FI
  have I_b := S.I_b
  have I_ty := S.I_ty
  have I_bk := kbI S.FI
  have M_NoInverse := S.m0
  have EK_NoInverse := S.R0.ek
  have II_NoInverse := S.R0.ini
  have M_NotCoprime := S.m1
  have EK_NotCoprime := S.R1.ek
  have II_NotCoprime := S.R1.ini
  have M_BadGround := S.m2
  have EK_BadGround := S.R2.ek
  have II_BadGround := S.R2.ini
  have M_NoRoot := S.m3
  have EK_NoRoot := S.R3.ek
  have II_NoRoot := S.R3.ini
  have M_NoShare := S.m4
  have EK_NoShare := S.R4.ek
  have II_NoShare := S.R4.ini
  have M_BadLength := S.m5
  have EK_BadLength := S.R5.ek
  have II_BadLength := S.R5.ini
  have M_BadText := S.m6
  have EK_BadText := S.R6.ek
  have II_BadText := S.R6.ini
  have M_BadStep := S.m7
  have EK_BadStep := S.R7.ek
  have II_BadStep := S.R7.ini
  have M_NotDone := S.m8
  have EK_NotDone := S.R8.ek
  have II_NotDone := S.R8.ini
  have M_TooSmall := S.m9
  have EK_TooSmall := S.R9.ek
  have II_TooSmall := S.R9.ini
  have M_BadOrder := S.m10
  have EK_BadOrder := S.R10.ek
  have II_BadOrder := S.R10.ini
  have M_NotEven := S.m11
  have EK_NotEven := S.R11.ek
  have II_NotEven := S.R11.ini
  have M_NotKept := S.m12
  have EK_NotKept := S.R12.ek
  have II_NotKept := S.R12.ini
  have M_BadDeed := S.m13
  have EK_BadDeed := S.R13.ek
  have II_BadDeed := S.R13.ini
  have M_BadLine := S.m14
  have EK_BadLine := S.R14.ek
  have II_BadLine := S.R14.ini
  have nd := sc__law_all_named.nd
  refine F.ok sc__law_all_named (fun vs H Q E h => ?_) (fun cdv A outer s H vs Q E hr h => ?_)
  · obtain ⟨v, rfl, _⟩ := h
    rfl
  · obtain ⟨v, rfl, q⟩ := h
    refine ⟨_, (pss_cons (ps_set (i := 1) nd rfl (Or.inl rfl) (pe_lst (pa_cons (pe_xv (pmk_oexK EK_NoInverse.oex II_NoInverse I_ty G_init (hr.mono (by omega)) I_bk pass0 (by rfl) M_NoInverse (pk_cons (pv 0) pk_nil))) (pa_cons (pe_xv (pmk_oexK EK_NotCoprime.oex II_NotCoprime I_ty G_init (hr.mono (by omega)) I_bk pass0 (by rfl) M_NotCoprime (pk_cons (pv 0) pk_nil))) (pa_cons (pe_xv (pmk_oexK EK_BadGround.oex II_BadGround I_ty G_init (hr.mono (by omega)) I_bk pass0 (by rfl) M_BadGround (pk_cons (pv 0) pk_nil))) (pa_cons (pe_xv (pmk_oexK EK_NoRoot.oex II_NoRoot I_ty G_init (hr.mono (by omega)) I_bk pass0 (by rfl) M_NoRoot (pk_cons (pv 0) pk_nil))) pa_nil))))))
      (pss_cons (ps_set (i := 1) nd rfl (Or.inl rfl) (pe_op op_cat (pv 1) (pe_lst (pa_cons (pe_xv (pmk_oexK EK_NoShare.oex II_NoShare I_ty G_init (hr.mono (by omega)) I_bk pass0 (by rfl) M_NoShare (pk_cons (pv 0) pk_nil))) (pa_cons (pe_xv (pmk_oexK EK_BadLength.oex II_BadLength I_ty G_init (hr.mono (by omega)) I_bk pass0 (by rfl) M_BadLength (pk_cons (pv 0) pk_nil))) (pa_cons (pe_xv (pmk_oexK EK_BadText.oex II_BadText I_ty G_init (hr.mono (by omega)) I_bk pass0 (by rfl) M_BadText (pk_cons (pv 0) pk_nil))) (pa_cons (pe_xv (pmk_oexK EK_BadStep.oex II_BadStep I_ty G_init (hr.mono (by omega)) I_bk pass0 (by rfl) M_BadStep (pk_cons (pv 0) pk_nil))) pa_nil)))))))
      (pss_cons (ps_set (i := 1) nd rfl (Or.inl rfl) (pe_op op_cat (pv 1) (pe_lst (pa_cons (pe_xv (pmk_oexK EK_NotDone.oex II_NotDone I_ty G_init (hr.mono (by omega)) I_bk pass0 (by rfl) M_NotDone (pk_cons (pv 0) pk_nil))) (pa_cons (pe_xv (pmk_oexK EK_TooSmall.oex II_TooSmall I_ty G_init (hr.mono (by omega)) I_bk pass0 (by rfl) M_TooSmall (pk_cons (pv 0) pk_nil))) (pa_cons (pe_xv (pmk_oexK EK_BadOrder.oex II_BadOrder I_ty G_init (hr.mono (by omega)) I_bk pass0 (by rfl) M_BadOrder (pk_cons (pv 0) pk_nil))) (pa_cons (pe_xv (pmk_oexK EK_NotEven.oex II_NotEven I_ty G_init (hr.mono (by omega)) I_bk pass0 (by rfl) M_NotEven (pk_cons (pv 0) pk_nil))) pa_nil)))))))
      (pss_one (ps_ret (pe_op op_cat (pv 1) (pe_lst (pa_cons (pe_xv (pmk_oexK EK_NotKept.oex II_NotKept I_ty G_init (hr.mono (by omega)) I_bk pass0 (by rfl) M_NotKept (pk_cons (pv 0) pk_nil))) (pa_cons (pe_xv (pmk_oexK EK_BadDeed.oex II_BadDeed I_ty G_init (hr.mono (by omega)) I_bk pass0 (by rfl) M_BadDeed (pk_cons (pv 0) pk_nil))) (pa_cons (pe_xv (pmk_oexK EK_BadLine.oex II_BadLine I_ty G_init (hr.mono (by omega)) I_bk pass0 (by rfl) M_BadLine (pk_cons (pv 0) pk_nil))) pa_nil)))))))))), ?_⟩
    walk_at "ev"
    refine xmk S.R0.ek fun e0 H1 he0 sm1 hx0 => ?_
    walk_at "ev"
    refine xmk S.R1.ek fun e1 H2 he1 sm2 hx1 => ?_
    walk_at "ev"
    refine xmk S.R2.ek fun e2 H3 he2 sm3 hx2 => ?_
    walk_at "ev"
    refine xmk S.R3.ek fun e3 H4 he3 sm4 hx3 => ?_
    walk_at "ev"
    w_cond _5
    walk_at "ev"
    refine xmk S.R4.ek fun e4 H6 he4 sm6 hx4 => ?_
    walk_at "ev"
    refine xmk S.R5.ek fun e5 H7 he5 sm7 hx5 => ?_
    walk_at "ev"
    refine xmk S.R6.ek fun e6 H8 he6 sm8 hx6 => ?_
    walk_at "ev"
    refine xmk S.R7.ek fun e7 H9 he7 sm9 hx7 => ?_
    walk_at "ev"
    w_cond _10
    have hc10 := (sm6.trans (sm7.trans (sm8.trans (sm9.trans sm10)))) _ _ hq5
    walk_at "ev"
    w_cond _11
    walk_at "ev"
    refine xmk S.R8.ek fun e8 H12 he8 sm12 hx8 => ?_
    walk_at "ev"
    refine xmk S.R9.ek fun e9 H13 he9 sm13 hx9 => ?_
    walk_at "ev"
    refine xmk S.R10.ek fun e10 H14 he10 sm14 hx10 => ?_
    walk_at "ev"
    refine xmk S.R11.ek fun e11 H15 he11 sm15 hx11 => ?_
    walk_at "ev"
    w_cond _16
    have hc16 := (sm12.trans (sm13.trans (sm14.trans (sm15.trans sm16)))) _ _ hq11
    walk_at "ev"
    w_cond _17
    walk_at "ev"
    refine xmk S.R12.ek fun e12 H18 he12 sm18 hx12 => ?_
    walk_at "ev"
    refine xmk S.R13.ek fun e13 H19 he13 sm19 hx13 => ?_
    walk_at "ev"
    refine xmk S.R14.ek fun e14 H20 he14 sm20 hx14 => ?_
    walk_at "ev"
    w_cond _21
    have hc21 := (sm18.trans (sm19.trans (sm20.trans sm21))) _ _ hq17
    walk_at "ev"
    w_cond _22
    have s0 : Same H H22 := (sm1.trans (sm2.trans (sm3.trans (sm4.trans (sm5.trans (sm6.trans (sm7.trans (sm8.trans (sm9.trans (sm10.trans (sm11.trans (sm12.trans (sm13.trans (sm14.trans (sm15.trans (sm16.trans (sm17.trans (sm18.trans (sm19.trans (sm20.trans (sm21.trans sm22)))))))))))))))))))))
    refine q l22 [e0, e1, e2, e3, e4, e5, e6, e7, e8, e9, e10, e11, e12, e13, e14] H22 ((sm1.trans (sm2.trans (sm3.trans (sm4.trans (sm5.trans (sm6.trans (sm7.trans (sm8.trans (sm9.trans (sm10.trans (sm11.trans (sm12.trans (sm13.trans (sm14.trans (sm15.trans (sm16.trans (sm17.trans (sm18.trans (sm19.trans (sm20.trans sm21)))))))))))))))))))).free hl22) s0 rfl (fun i e C he hC => ?_) hq22
    have g0 := hx0.same (sm2.trans (sm3.trans (sm4.trans (sm5.trans (sm6.trans (sm7.trans (sm8.trans (sm9.trans (sm10.trans (sm11.trans (sm12.trans (sm13.trans (sm14.trans (sm15.trans (sm16.trans (sm17.trans (sm18.trans (sm19.trans (sm20.trans (sm21.trans sm22))))))))))))))))))))
    have g1 := hx1.same (sm3.trans (sm4.trans (sm5.trans (sm6.trans (sm7.trans (sm8.trans (sm9.trans (sm10.trans (sm11.trans (sm12.trans (sm13.trans (sm14.trans (sm15.trans (sm16.trans (sm17.trans (sm18.trans (sm19.trans (sm20.trans (sm21.trans sm22)))))))))))))))))))
    have g2 := hx2.same (sm4.trans (sm5.trans (sm6.trans (sm7.trans (sm8.trans (sm9.trans (sm10.trans (sm11.trans (sm12.trans (sm13.trans (sm14.trans (sm15.trans (sm16.trans (sm17.trans (sm18.trans (sm19.trans (sm20.trans (sm21.trans sm22))))))))))))))))))
    have g3 := hx3.same (sm5.trans (sm6.trans (sm7.trans (sm8.trans (sm9.trans (sm10.trans (sm11.trans (sm12.trans (sm13.trans (sm14.trans (sm15.trans (sm16.trans (sm17.trans (sm18.trans (sm19.trans (sm20.trans (sm21.trans sm22)))))))))))))))))
    have g4 := hx4.same (sm7.trans (sm8.trans (sm9.trans (sm10.trans (sm11.trans (sm12.trans (sm13.trans (sm14.trans (sm15.trans (sm16.trans (sm17.trans (sm18.trans (sm19.trans (sm20.trans (sm21.trans sm22)))))))))))))))
    have g5 := hx5.same (sm8.trans (sm9.trans (sm10.trans (sm11.trans (sm12.trans (sm13.trans (sm14.trans (sm15.trans (sm16.trans (sm17.trans (sm18.trans (sm19.trans (sm20.trans (sm21.trans sm22))))))))))))))
    have g6 := hx6.same (sm9.trans (sm10.trans (sm11.trans (sm12.trans (sm13.trans (sm14.trans (sm15.trans (sm16.trans (sm17.trans (sm18.trans (sm19.trans (sm20.trans (sm21.trans sm22)))))))))))))
    have g7 := hx7.same (sm10.trans (sm11.trans (sm12.trans (sm13.trans (sm14.trans (sm15.trans (sm16.trans (sm17.trans (sm18.trans (sm19.trans (sm20.trans (sm21.trans sm22))))))))))))
    have g8 := hx8.same (sm13.trans (sm14.trans (sm15.trans (sm16.trans (sm17.trans (sm18.trans (sm19.trans (sm20.trans (sm21.trans sm22)))))))))
    have g9 := hx9.same (sm14.trans (sm15.trans (sm16.trans (sm17.trans (sm18.trans (sm19.trans (sm20.trans (sm21.trans sm22))))))))
    have g10 := hx10.same (sm15.trans (sm16.trans (sm17.trans (sm18.trans (sm19.trans (sm20.trans (sm21.trans sm22)))))))
    have g11 := hx11.same (sm16.trans (sm17.trans (sm18.trans (sm19.trans (sm20.trans (sm21.trans sm22))))))
    have g12 := hx12.same (sm19.trans (sm20.trans (sm21.trans sm22)))
    have g13 := hx13.same (sm20.trans (sm21.trans sm22))
    have g14 := hx14.same (sm21.trans sm22)
    match i, he, hC with
    | 0, he, hC => cases he; cases hC; exact g0
    | 1, he, hC => cases he; cases hC; exact g1
    | 2, he, hC => cases he; cases hC; exact g2
    | 3, he, hC => cases he; cases hC; exact g3
    | 4, he, hC => cases he; cases hC; exact g4
    | 5, he, hC => cases he; cases hC; exact g5
    | 6, he, hC => cases he; cases hC; exact g6
    | 7, he, hC => cases he; cases hC; exact g7
    | 8, he, hC => cases he; cases hC; exact g8
    | 9, he, hC => cases he; cases hC; exact g9
    | 10, he, hC => cases he; cases hC; exact g10
    | 11, he, hC => cases he; cases hC; exact g11
    | 12, he, hC => cases he; cases hC; exact g12
    | 13, he, hC => cases he; cases hC; exact g13
    | 14, he, hC => cases he; cases hC; exact g14
    | i + 15, he, hC => cases he
end
theorem idx_one : ∀ i < 15, idxs ((List.range 15).map fun j => decide (i = j)) = [(i : Int)] := by decide
theorem idx_none : idxs (List.replicate 15 false) = [] := by decide
abbrev s_law : Stmt := top 30
abbrev N_law : List Str := ["_law_script", "_law_k", "_law_cell", "_law_box_here", "_law_thing", "_law_row", "_law_place", "_law_error", "_law_due"]
abbrev P_law : List Str := ["_law_script"]
theorem sc_law : FnScope N_law P_law (defScope s_law) := ⟨rfl, rfl, rfl, by decide +kernel, rfl, by decide +kernel, by decide +kernel⟩
def spLaw (K : PySem.W.Frag) : Sp := fun vs H Q _ => ∃ (a : Addr) (ns : List Int), vs = [.ref a] ∧ SqL K H a (ns.map V.int) ∧ ns.length ≤ 63 ∧ ∀ H', Q (.bl true) H'
structure Fns (P : Program) (w : World) (K : PySem.W.Frag) (mg : Str → Option Value) (base : Heap) : Prop where
  x0 : ∃ f fd, Df K mg "_law_box" s__law_box P__law_box f fd
  x1 : ∃ f fd, Df K mg "_law_take" s__law_take P__law_take f fd
  x2 : ∃ f fd, Df K mg "_law_pick" s__law_pick P__law_pick f fd
  x3 : ∃ f fd, Df K mg "_law_folded" s__law_folded P__law_folded f fd
  x4 : ∃ f fd, Df K mg "_law_same" s__law_same P__law_same f fd
  x5 : ∃ f fd, Df K mg "_law_marks" s__law_marks P__law_marks f fd
  x6 : ∃ f fd, Df K mg "_law_all" s__law_all P__law_all f fd
  x7 : ∃ f fd, Df K mg "_law_all_named" s__law_all_named P__law_all_named f fd
structure C01 (K : PySem.W.Frag) (mg : Str → Option Value) (CT fI : Addr) (fdI : FuncData) (c0 c1 c2 c3 c4 c5 c6 c7 c8 c9 c10 c11 c12 c13 c14 aS aT aP : Addr) : Prop where
  X : X15 K mg CT fI fdI c0 c1 c2 c3 c4 c5 c6 c7 c8 c9 c10 c11 c12 c13 c14
  mS : mg "SHORTS" = some (.ref aS)
  qS : ∀ H : Hp, SqT K H aS (([1, 2, 3, 4] : List Int).map V.int)
  mTb : mg "TABLE" = some (.ref aT)
  qT : ∀ H : Hp, SqT K H aT (([1, 3] : List Int).map V.int)
  mP : mg "PRIMES" = some (.ref aP)
  qP : ∀ H : Hp, SqT K H aP (([97, 193, 241, 257, 337, 421, 577, 2521] : List Int).map V.int)
  mB : ∃ t, mg "BOOK" = some (.int 6 t)
theorem X15.rf {K : PySem.W.Frag} {mg : Str → Option Value} {CT fI c0 c1 c2 c3 c4 c5 c6 c7 c8 c9 c10 c11 c12 c13 c14 : Addr} {fdI : FuncData} (S : X15 K mg CT fI fdI c0 c1 c2 c3 c4 c5 c6 c7 c8 c9 c10 c11 c12 c13 c14) {i : Nat} {C : Addr} (h : [c0, c1, c2, c3, c4, c5, c6, c7, c8, c9, c10, c11, c12, c13, c14][i]? = some C) : i < 15 ∧ Ref K CT C fI ∧ ([c0, c1, c2, c3, c4, c5, c6, c7, c8, c9, c10, c11, c12, c13, c14].map fun d => PySem.W.kitOne K (.ref C) (.ref d)) = ((List.range 15).map fun j => decide (i = j)).map some := by
  have hi : i < 15 := (List.getElem?_eq_some_iff.mp h).1
  refine ⟨hi, ?_, ?_⟩
  · match i, h with
    | 0, h => cases h; exact S.R0
    | 1, h => cases h; exact S.R1
    | 2, h => cases h; exact S.R2
    | 3, h => cases h; exact S.R3
    | 4, h => cases h; exact S.R4
    | 5, h => cases h; exact S.R5
    | 6, h => cases h; exact S.R6
    | 7, h => cases h; exact S.R7
    | 8, h => cases h; exact S.R8
    | 9, h => cases h; exact S.R9
    | 10, h => cases h; exact S.R10
    | 11, h => cases h; exact S.R11
    | 12, h => cases h; exact S.R12
    | 13, h => cases h; exact S.R13
    | 14, h => cases h; exact S.R14
    | i + 15, h => exact absurd hi (by omega)
  · have e := congrArg (fun l => l[i]?) S.kit
    simp only [List.getElem?_map, h, List.getElem?_range hi, Option.map_some] at e
    have e2 := Option.some.inj e
    rw [e2, List.map_map]
    rfl
section
variable {P : Program} {w : World} {K : PySem.W.Frag} {mg : Str → Option Value} {base : Heap}
theorem ok_law {f CT fI c0 c1 c2 c3 c4 c5 c6 c7 c8 c9 c10 c11 c12 c13 c14 aS aT aP : Addr} {fd fdI : FuncData} (F : Fun K "law" "law" s_law f fd) (T : Blt mg) (U : Fns P w K mg base) (S : C01 K mg CT fI fdI c0 c1 c2 c3 c4 c5 c6 c7 c8 c9 c10 c11 c12 c13 c14 aS aT aP) : FnOk P w K mg base CX0 6 f fd P_law (spLaw K) := by
  obtain ⟨⟨f0, d0, D__law_box⟩, ⟨f1, d1, D__law_take⟩, ⟨f2, d2, D__law_pick⟩, ⟨f3, d3, D__law_folded⟩, ⟨f4, d4, D__law_same⟩, ⟨f5, d5, D__law_marks⟩, ⟨f6, d6, D__law_all⟩, ⟨f7, d7, D__law_all_named⟩⟩ := U
  obtain ⟨tB, M_BOOK⟩ := S.mB
  have M_SHORTS := S.mS
  have M_TABLE := S.mTb
  have M_PRIMES := S.mP
  have M_TurnError := S.X.mT
  have EK_TurnError := S.X.RT.ek
  have II_TurnError := S.X.RT.ini
  have G_init : FnOk P w K mg base CX0 1 fI fdI N_init (spInit K) := ok_init S.X.FI
  have I_b := S.X.I_b
  have I_ty := S.X.I_ty
  have I_bk := kbI S.X.FI
  have G__law_box : FnOk P w K mg base CX0 1 f0 d0 P__law_box (spBox K) := ok_box D__law_box.F T
  have G__law_pick : FnOk P w K mg base CX0 2 f2 d2 P__law_pick (spPick K) := ok_pick (k := 0) D__law_pick.F T D__law_take
  have G__law_folded : FnOk P w K mg base CX0 1 f3 d3 P__law_folded (spFold K) := ok_fold D__law_folded.F T
  have G__law_same : FnOk P w K mg base CX0 4 f4 d4 P__law_same (spSame K 3) := ok_same D__law_same T 3
  have G__law_marks : FnOk P w K mg base CX0 1 f5 d5 P__law_marks (spMarks K [c0, c1, c2, c3, c4, c5, c6, c7, c8, c9, c10, c11, c12, c13, c14]) := ok_marks D__law_marks.F T S.X
  have G__law_all : FnOk P w K mg base CX0 4 f6 d6 P__law_all (spAll [c0, c1, c2, c3, c4, c5, c6, c7, c8, c9, c10, c11, c12, c13, c14]) := ok_all (k := 0) D__law_all.F T S.X
  have G__law_all_named : FnOk P w K mg base CX0 4 f7 d7 P__law_all_named (spAll [c0, c1, c2, c3, c4, c5, c6, c7, c8, c9, c10, c11, c12, c13, c14]) := ok_named (k := 0) D__law_all_named.F T S.X
  have nd := sc_law.nd
  refine F.ok sc_law (fun vs H Q E h => ?_) (fun cdv A outer s H vs Q E hr h => ?_)
  · obtain ⟨a, ns, rfl, _⟩ := h
    rfl
  · obtain ⟨a, ns, rfl, hS, hlen, q⟩ := h
    refine ⟨_, (pss_cons (ps_for PassesOwn.never rfl (pi_enum (by rfl) T.b_enumerate (pa_cons (pe_call G__law_folded (hr.mono (by omega)) (by rfl) D__law_folded.g D__law_folded.F.kp D__law_folded.b .nil pass0 (pa_cons (pv 0) (pa_cons (pe_int) pa_nil))) pa_nil)) (pg_tup (by rfl) (pgs_cons (pg_name (i := 1) nd rfl (Or.inl rfl)) (pgs_cons (pg_name (i := 2) nd rfl (Or.inl rfl)) pgs_nil)))
      (pss_cons (ps_set (i := 3) nd rfl (Or.inl rfl) (pe_call G__law_box (hr.mono (by omega)) (by rfl) D__law_box.g D__law_box.F.kp D__law_box.b .nil pass0 (pa_cons (pe_lst (pa_cons (pv 2) pa_nil)) (pa_cons (pe_int) pa_nil))))
      (pss_cons (ps_set (i := 4) nd rfl (Or.inl rfl) (pe_call G__law_pick (hr.mono (by omega)) (by rfl) D__law_pick.g D__law_pick.F.kp D__law_pick.b .nil pass0 (pa_cons (pv 3) (pa_cons (pe_lst (pa_cons (pv 2) (pa_cons (pe_non) (pa_cons (pe_bl) (pa_cons (pe_str) (pa_cons (pe_str) (pa_cons (pe_tup (pa_cons (pe_str) (pa_cons (pe_int) pa_nil))) (pa_cons (pe_lst (pa_cons (pv 2) pa_nil)) (pa_cons (pe_tup (pa_cons (pe_int) (pa_cons (pe_un un_neg (pe_int)) pa_nil))) (pa_cons (pe_un un_neg (pe_int)) (pa_cons (pe_str) (pa_cons (pe_int) pa_nil)))))))))))) pa_nil))))
      (pss_cons (ps_for PassesOwn.never rfl (pi_tup (pe_tup (pa_cons (pe_call G__law_all (hr.mono (by omega)) (by rfl) D__law_all.g D__law_all.F.kp D__law_all.b .nil pass0 (pa_cons (pv 4) pa_nil)) (pa_cons (pe_call G__law_all_named (hr.mono (by omega)) (by rfl) D__law_all_named.g D__law_all_named.F.kp D__law_all_named.b .nil pass0 (pa_cons (pv 4) pa_nil)) pa_nil)))) (pg_name (i := 5) nd rfl (Or.inl rfl))
      (pss_one (ps_for PassesOwn.never rfl (pi_enum (by rfl) T.b_enumerate (pa_cons (pv 5) pa_nil)) (pg_tup (by rfl) (pgs_cons (pg_name (i := 6) nd rfl (Or.inl rfl)) (pgs_cons (pg_name (i := 7) nd rfl (Or.inl rfl)) pgs_nil)))
      (pss_cons (ps_if (PW.pt (pw_or (pt_cmpR (r := rNeD K) (op_neD hr.units) (pe_call G__law_marks (hr.mono (by omega)) (by rfl) D__law_marks.g D__law_marks.F.kp D__law_marks.b .nil pass0 (pa_cons (pv 7) pa_nil)) (pe_lst (pa_cons (pv 6) pa_nil)) (nomark _)) (pw_or1 (pt_not (pt_val (pe_callB (r := rIsX K) call_isX (by rfl) T.b_isinstance (by decide +kernel) (pa_cons (pv 7) (pa_cons (pe_glob (v := .ref _) (by rfl) M_TurnError rfl) pa_nil)))))))) (pss_one (ps_ret (pe_bl))) pss_nil)
      (pss_one (ps_if (PW.pt (pw_or (pt_not (pt_val (pe_callB (r := rIsX K) call_isX (by rfl) T.b_isinstance (by decide +kernel) (pa_cons (pv 7) (pa_cons (pe_bltn (v := .ty "ValueError") (by rfl) T.b_ValueError (by decide +kernel) rfl) pa_nil))))) (pw_or1 (pt_not (pt_val (pe_call G__law_same (hr.mono (by omega)) (by rfl) D__law_same.g D__law_same.F.kp D__law_same.b .nil pass0 (pa_cons (pe_xw (pv 7)) (pa_cons (pv 4) pa_nil)))))))) (pss_one (ps_ret (pe_bl))) pss_nil))))))
      (pss_one (ps_if (PW.pt (pw_or (pt_cmpR (r := rNeD K) (op_neD hr.units) (pe_call G__law_marks (hr.mono (by omega)) (by rfl) D__law_marks.g D__law_marks.F.kp D__law_marks.b .nil pass0 (pa_cons (pe_xv (pmk_oex EK_TurnError.oex II_TurnError I_ty G_init (hr.mono (by omega)) I_b .nil pass0 (by rfl) M_TurnError (pa_cons (pv 4) pa_nil))) pa_nil)) (pe_lst pa_nil) (nomark _)) (pw_or1 (pt_not (pt_val (pe_call G__law_same (hr.mono (by omega)) (by rfl) D__law_same.g D__law_same.F.kp D__law_same.b .nil pass0 (pa_cons (pe_xw (pe_xv (pmk_oexK EK_TurnError.oex II_TurnError I_ty G_init (hr.mono (by omega)) I_bk pass0 (by rfl) M_TurnError (pk_cons (pv 4) pk_nil)))) (pa_cons (pv 4) pa_nil)))))))) (pss_one (ps_ret (pe_bl))) pss_nil))))))
      (pss_cons (ps_set (i := 8) nd rfl (Or.inl rfl) (pe_lst (pa_cons (pe_tup (pa_cons (pe_int) (pa_cons (pe_int) (pa_cons (pe_int) (pa_cons (pe_int) pa_nil))))) (pa_cons (pe_tup (pa_cons (pe_int) (pa_cons (pe_int) pa_nil))) (pa_cons (pe_tup (pa_cons (pe_int) (pa_cons (pe_int) (pa_cons (pe_int) (pa_cons (pe_int) (pa_cons (pe_int) (pa_cons (pe_int) (pa_cons (pe_int) (pa_cons (pe_int) pa_nil))))))))) (pa_cons (pe_int) pa_nil))))))
      (pss_one (ps_ret (pe_call G__law_same (hr.mono (by omega)) (by rfl) D__law_same.g D__law_same.F.kp D__law_same.b .nil pass0 (pa_cons (pe_lst (pa_cons (pe_glob (v := .ref _) (by rfl) M_SHORTS rfl) (pa_cons (pe_glob (v := .ref _) (by rfl) M_TABLE rfl) (pa_cons (pe_glob (v := .ref _) (by rfl) M_PRIMES rfl) (pa_cons (pe_glob (v := .int 6) (by rfl) M_BOOK ⟨_, rfl⟩) pa_nil))))) (pa_cons (pv 8) pa_nil))))))), ?_⟩
    walk_at "ev"
    intro ce cells H1 hc1 hc3 hce0 sm1 hce
    have hLc : SqL K H1 ce (cells.map V.int) := SqL.of hce
    walk_at "ev"
    refine for_enumL (K := K) (a := ce) (xs := cells.map V.int) (fun i σ H' => Hold (∃ s1 s2 s3 s4 s5 s6 s7, σ = [some (.ref a), s1, s2, s3, s4, s5, s6, s7, none] ∧ Same H1 H')) (.mk ⟨_, _, _, _, _, _, _, rfl, Same.refl _⟩) ?_ ?_ ?_
    · intro i σ H2 hP
      obtain ⟨s1, s2, s3, s4, s5, s6, s7, rfl, sm2⟩ := hP.un
      exact sm2.seq hLc
    · intro i v T' σ H2 hv hP hT
      obtain ⟨s1, s2, s3, s4, s5, s6, s7, rfl, sm2⟩ := hP.un
      rw [List.getElem?_map] at hv
      obtain ⟨cell, hcell, ev⟩ := Option.map_eq_some_iff.mp hv
      subst ev
      generalize hG : upd _ T' _ = H3
      obtain ⟨sm3, hq3⟩ := newO hG hT
      clear hG
      have hT3 : SqT K H3 T' [.int (i : Nat), .int cell] := SqT.of hq3
      walk_at "ev"
      w_cond _4
      have hL4 : SqL K H4 l4 (([cell] : List Int).map V.int) := SqL.of hq4
      walk_at "ev"
      intro b H5 hb0 sm5 hbx
      walk_at "ev"
      w_cond _6
      walk_at "ev"
      w_cond _7
      walk_at "ev"
      w_cond _8
      walk_at "ev"
      w_cond _9
      have s59 := sm6.trans (sm7.trans (sm8.trans sm9))
      have hb9 := hbx.same s59
      have n6b := hbx.ne hl6
      have n7b := (hbx.same sm6).ne hl7
      have n8b := (hbx.same (sm6.trans sm7)).ne hl8
      have n9b := (hbx.same (sm6.trans (sm7.trans sm8))).ne hl9
      have hL9 := SqL.of (K := K) hq9
      walk_at "ev"
      intro v H10 hv k10 hb10
      have g6 := k10 _ _ n6b ((sm7.trans (sm8.trans sm9)) _ _ hq6)
      have g7 := k10 _ _ n7b ((sm8.trans sm9) _ _ hq7)
      have g8 := k10 _ _ n8b (sm9 _ _ hq8)
      obtain ⟨dv, hdv, hfv⟩ : ∃ dv, Dp K H10 v dv ∧ Fit 3 dv := by
        have fp : ∀ x y : PyData, Fit 2 x → Fit 2 y → Fit 3 (.tuple [x, y]) := fun x y hx hy => ⟨by show 2 ≤ 4000; decide, fun e he => by
          simp only [List.mem_cons, List.not_mem_nil, or_false] at he
          rcases he with z | z <;> rw [z] <;> assumption⟩
        simp only [List.mem_cons, List.not_mem_nil, or_false] at hv
        rcases hv with y | y | y | y | y | y | y | y | y | y | y <;> subst y
        · exact ⟨_, .int _, True.intro⟩
        · exact ⟨_, .non, True.intro⟩
        · exact ⟨_, .bl _, True.intro⟩
        · exact ⟨_, .str _, True.intro⟩
        · exact ⟨_, .str _, True.intro⟩
        · exact ⟨_, .tup (SqT.of g6) (.cons (.str _) (.cons (.int _) .nil)), fp _ _ True.intro True.intro⟩
        · exact ⟨_, .lst (SqL.of g7) (.cons (.int _) .nil), ⟨by show 1 ≤ 4000; decide, fun e he => by rw [List.mem_singleton.mp he]; exact True.intro⟩⟩
        · exact ⟨_, .tup (SqT.of g8) (.cons (.int _) (.cons (.int _) .nil)), fp _ _ True.intro True.intro⟩
        · exact ⟨_, .int _, True.intro⟩
        · exact ⟨_, .str _, True.intro⟩
        · exact ⟨_, .int _, True.intro⟩
      clear hv
      have s110 : Same H1 H10 := keep_same ((sm2.trans (sm3.trans sm4)).trans (sm5.trans s59)) ((sm2.trans (sm3.trans sm4)).free hb0) k10
      walk_at "ev"
      intro p11 es1 H11 hp11 sm11 hl11 hx11 hq11
      walk_at "ev"
      intro p12 es2 H12 hp12 sm12 hl12 hx12 hq12
      walk_at "ev"
      w_cond _13
      have s1013 := sm11.trans (sm12.trans sm13)
      have hLT := SqT.of (K := K) hq13
      have hrows : ∀ r ∈ [V.ref p11, V.ref p12], ∃ (r' : Addr) (es : List Addr), r = .ref r' ∧ H13 r' = some (.lst (es.map V.ref)) ∧ es.length = 15 ∧ ∀ (i : Nat) (e C : Addr), es[i]? = some e → [c0, c1, c2, c3, c4, c5, c6, c7, c8, c9, c10, c11, c12, c13, c14][i]? = some C → XAt H13 e C [(("what" : Str), v)] := by
        intro r hr'
        simp only [List.mem_cons, List.not_mem_nil, or_false] at hr'
        rcases hr' with y | y
        · exact ⟨p11, es1, y, (sm12.trans sm13) _ _ hq11, hl11, fun i e C h1 h2 => (hx11 i e C h1 h2).same (sm12.trans sm13)⟩
        · exact ⟨p12, es2, y, sm13 _ _ hq12, hl12, fun i e C h1 h2 => (hx12 i e C h1 h2).same sm13⟩
      refine ⟨l13, rfl, ⟨_, hLT⟩, ?_⟩
      refine for_tup (K := K) (a := l13) (xs := [.ref p11, .ref p12]) (fun j σ H' => Hold (∃ s5 s6 s7, σ = [some (.ref a), some (.int (i : Nat)), some (.int cell), some (.ref b), some v, s5, s6, s7, none] ∧ Same H13 H')) (.mk ⟨_, _, _, rfl, Same.refl _⟩) ?_ ?_ ?_
      · intro j σ H14 hj hP14
        obtain ⟨s5, s6, s7, rfl, sm14⟩ := hP14.un
        exact same_t sm14 hLT
      · intro j r σ H14 hr' hP14
        obtain ⟨s5, s6, s7, rfl, sm14⟩ := hP14.un
        obtain ⟨r', es, rfl, hrw, hesl, hxs⟩ := hrows r (List.mem_of_getElem? hr')
        have hLr := SqL.of (K := K) (sm14 _ _ hrw)
        walk_at "ev"
        refine for_enumL (K := K) (a := r') (xs := es.map V.ref) (fun m σ H' => Hold (∃ s6 s7, σ = [some (.ref a), some (.int (i : Nat)), some (.int cell), some (.ref b), some v, some (.ref r'), s6, s7, none] ∧ Same H14 H')) (.mk ⟨_, _, rfl, Same.refl _⟩) ?_ ?_ ?_
        · intro m σ H15 hP15
          obtain ⟨s6, s7, rfl, sm15⟩ := hP15.un
          exact sm15.seq hLr
        · intro m ve T2 σ H15 hve hP15 hT2
          obtain ⟨s6, s7, rfl, sm15⟩ := hP15.un
          rw [List.getElem?_map] at hve
          obtain ⟨e, he, ev⟩ := Option.map_eq_some_iff.mp hve
          subst ev
          have hm15 : m < 15 := by
            have := (List.getElem?_eq_some_iff.mp he).1
            omega
          obtain ⟨C, hC⟩ : ∃ C, [c0, c1, c2, c3, c4, c5, c6, c7, c8, c9, c10, c11, c12, c13, c14][m]? = some C := ⟨_, List.getElem?_eq_getElem hm15⟩
          obtain ⟨_, RR, hkit⟩ := S.X.rf hC
          generalize hG : upd _ T2 _ = H16
          obtain ⟨sm16, hq16⟩ := newO hG hT2
          clear hG
          have hT16 : SqT K H16 T2 [.int (m : Nat), .ref e] := SqT.of hq16
          have s1316 := sm14.trans (sm15.trans sm16)
          have hx16 := (hxs m e C he hC).same s1316
          have ek := RR.ek
          have kv := RR.kv
          have kt := RR.kt
          have nw := RR.ek.nw
          have hbl : ((List.range 15).map fun j => decide (m = j)).length = 15 := by rw [List.length_map, List.length_range]
          walk_at "ev"
          intro p17 H17 hp17 sm17 hq17
          rw [idx_one m hm15] at hq17
          walk_at "ev"
          w_cond _18
          have hA : SqL K H18 p17 (([(m : Int)] : List Int).map V.int) := SqL.of (sm18 _ _ hq17)
          have hB : SqL K H18 l18 (([(m : Int)] : List Int).map V.int) := SqL.of hq18
          refine ned_ints hA hB ?_
          rw [decide_eq_true rfl]
          have hx18 := hx16.same (sm17.trans sm18)
          have hd18 := dp_same (s1013.trans (s1316.trans (sm17.trans sm18))) hdv
          walk_at "ev"
          intro H19 sm19
          walk_at "ev"
          exact .mk ⟨_, _, rfl, sm15.trans (sm16.trans (sm17.trans (sm18.trans sm19)))⟩
        · intro σ H15 hP15
          obtain ⟨s6, s7, rfl, sm15⟩ := hP15.un
          exact .mk ⟨_, _, _, rfl, sm14.trans sm15⟩
      · intro σ H14 hP14
        obtain ⟨s5, s6, s7, rfl, sm14⟩ := hP14.un
        have hkT : ([c0, c1, c2, c3, c4, c5, c6, c7, c8, c9, c10, c11, c12, c13, c14].map fun d => PySem.W.kitOne K (.ref CT) (.ref d)) = (List.replicate 15 false).map some := by
          rw [S.X.kt, List.map_replicate]
        have hbT : (List.replicate 15 false).length = 15 := List.length_replicate
        have nwT := S.X.RT.ek.nw
        walk_at "ev"
        refine xmk S.X.RT.ek fun e15 H15 he15 sm15 hx15 => ?_
        walk_at "ev"
        intro p16 H16 hp16 sm16 hq16
        rw [idx_none] at hq16
        walk_at "ev"
        w_cond _17
        have hA : SqL K H17 p16 (([] : List Int).map V.int) := SqL.of (sm17 _ _ hq16)
        have hB : SqL K H17 l17 (([] : List Int).map V.int) := SqL.of hq17
        refine ned_ints hA hB ?_
        rw [decide_eq_true rfl]
        walk_at "ev"
        refine xmk S.X.RT.ek fun e18 H18 he18 sm18 hx18 => ?_
        have s1018 := s1013.trans (sm14.trans (sm15.trans (sm16.trans (sm17.trans sm18))))
        have hd18 := dp_same s1018 hdv
        walk_at "ev"
        intro H19 sm19
        walk_at "ev"
        exact .mk ⟨_, _, _, _, _, _, _, rfl, s110.trans (s1018.trans sm19)⟩
    · intro σ H2 hP
      obtain ⟨s1, s2, s3, s4, s5, s6, s7, rfl, sm2⟩ := hP.un
      walk_at "ev"
      w_cond _3
      walk_at "ev"
      w_cond _4
      walk_at "ev"
      w_cond _5
      walk_at "ev"
      w_cond _6
      walk_at "ev"
      w_cond _7
      have dt : ∀ (xs : List Int) (Hx : Hp) (x : Addr), SqT K Hx x (xs.map V.int) → Dp K Hx (.ref x) (.tuple (xs.map PyData.int)) := fun xs Hx x h => .tup h (dp_ints xs)
      have ft : ∀ xs : List Int, xs.length ≤ 4000 → Fit 2 (.tuple (xs.map PyData.int)) := fun xs h => ⟨by rw [List.length_map]; exact h, fun e he => by
        obtain ⟨c, _, rfl⟩ := List.mem_map.mp he
        exact True.intro⟩
      have hdA : Dp K H7 (.ref l7) (.list [.tuple (([1, 2, 3, 4] : List Int).map PyData.int), .tuple (([1, 3] : List Int).map PyData.int), .tuple (([97, 193, 241, 257, 337, 421, 577, 2521] : List Int).map PyData.int), .int 6]) := .lst (SqL.of hq7) (.cons (dt _ _ _ (S.qS _)) (.cons (dt _ _ _ (S.qT _)) (.cons (dt _ _ _ (S.qP _)) (.cons (.int 6) .nil))))
      have hdB : Dp K H7 (.ref l6) (.list [.tuple (([1, 2, 3, 4] : List Int).map PyData.int), .tuple (([1, 3] : List Int).map PyData.int), .tuple (([97, 193, 241, 257, 337, 421, 577, 2521] : List Int).map PyData.int), .int 6]) := .lst (SqL.of (sm7 _ _ hq6)) (.cons (dt _ _ _ (SqT.of ((sm4.trans (sm5.trans (sm6.trans sm7))) _ _ hq3))) (.cons (dt _ _ _ (SqT.of ((sm5.trans (sm6.trans sm7)) _ _ hq4))) (.cons (dt _ _ _ (SqT.of ((sm6.trans sm7) _ _ hq5))) (.cons (.int 6) .nil))))
      have hft : Fit 3 (.list [.tuple (([1, 2, 3, 4] : List Int).map PyData.int), .tuple (([1, 3] : List Int).map PyData.int), .tuple (([97, 193, 241, 257, 337, 421, 577, 2521] : List Int).map PyData.int), .int 6]) := by
        refine ⟨by show 4 ≤ 4000; decide, fun e he => ?_⟩
        simp only [List.mem_cons, List.not_mem_nil, or_false] at he
        rcases he with y | y | y | y <;> rw [y]
        · exact ft _ (by decide)
        · exact ft _ (by decide)
        · exact ft _ (by decide)
        · exact True.intro
      walk_at "ev"
      intro H8 sm8
      exact q _
end
theorem all_mk {l : PySem.W.OpenLaw} {w : World} {K : PySem.W.Frag} {h : Heap} {mg : Str → Option Value} {fa : Addr} (X : K.In h) (G : h.Ns mainGlobals mg) (hfa : mg "law" = some (.ref fa))
    {od0 an0 : Option Addr} {sl0 : Array (Option Value)} {oc0 kV0 dc0 pm0 cd0 ct0 : Value} {f0 : Addr}
    {od1 an1 : Option Addr} {sl1 : Array (Option Value)} {oc1 kV1 dc1 pm1 cd1 ct1 : Value} {f1 : Addr}
    {od2 an2 : Option Addr} {sl2 : Array (Option Value)} {oc2 kV2 dc2 pm2 cd2 ct2 : Value} {f2 : Addr}
    {od3 an3 : Option Addr} {sl3 : Array (Option Value)} {oc3 kV3 dc3 pm3 cd3 ct3 : Value} {f3 : Addr}
    {od4 an4 : Option Addr} {sl4 : Array (Option Value)} {oc4 kV4 dc4 pm4 cd4 ct4 : Value} {f4 : Addr}
    {od5 an5 : Option Addr} {sl5 : Array (Option Value)} {oc5 kV5 dc5 pm5 cd5 ct5 : Value} {f5 : Addr}
    {od6 an6 : Option Addr} {sl6 : Array (Option Value)} {oc6 kV6 dc6 pm6 cd6 ct6 : Value} {f6 : Addr}
    {od7 an7 : Option Addr} {sl7 : Array (Option Value)} {oc7 kV7 dc7 pm7 cd7 ct7 : Value} {f7 : Addr}
    {od8 an8 : Option Addr} {sl8 : Array (Option Value)} {oc8 kV8 dc8 pm8 cd8 ct8 : Value} {f8 : Addr}
    {fI : Addr} {odI anI : Option Addr} {slI : Array (Option Value)} {ocI kVI dcI pmI cdI ctI : Value}
    {C_TurnError : Addr}
    {C_NoInverse : Addr}
    {C_NotCoprime : Addr}
    {C_BadGround : Addr}
    {C_NoRoot : Addr}
    {C_NoShare : Addr}
    {C_BadLength : Addr}
    {C_BadText : Addr}
    {C_BadStep : Addr}
    {C_NotDone : Addr}
    {C_TooSmall : Addr}
    {C_BadOrder : Addr}
    {C_NotEven : Addr}
    {C_NotKept : Addr}
    {C_BadDeed : Addr}
    {C_BadLine : Addr}
    {nm_TurnError q_TurnError : Str} {N_TurnError : Addr} {bs_TurnError : List Value} {sn_TurnError : List Str} {sb_TurnError : List Value} {ab_TurnError : Bool} {co_TurnError : Option Bool} {dd_TurnError : Option Addr} {m0_TurnError m1_TurnError m2_TurnError m3_TurnError m5_TurnError : Option Value}
    {nm_NoInverse q_NoInverse : Str} {N_NoInverse : Addr} {bs_NoInverse : List Value} {sn_NoInverse : List Str} {sb_NoInverse : List Value} {ab_NoInverse : Bool} {co_NoInverse : Option Bool} {dd_NoInverse : Option Addr} {m0_NoInverse m1_NoInverse m2_NoInverse m3_NoInverse m5_NoInverse : Option Value}
    {nm_NotCoprime q_NotCoprime : Str} {N_NotCoprime : Addr} {bs_NotCoprime : List Value} {sn_NotCoprime : List Str} {sb_NotCoprime : List Value} {ab_NotCoprime : Bool} {co_NotCoprime : Option Bool} {dd_NotCoprime : Option Addr} {m0_NotCoprime m1_NotCoprime m2_NotCoprime m3_NotCoprime m5_NotCoprime : Option Value}
    {nm_BadGround q_BadGround : Str} {N_BadGround : Addr} {bs_BadGround : List Value} {sn_BadGround : List Str} {sb_BadGround : List Value} {ab_BadGround : Bool} {co_BadGround : Option Bool} {dd_BadGround : Option Addr} {m0_BadGround m1_BadGround m2_BadGround m3_BadGround m5_BadGround : Option Value}
    {nm_NoRoot q_NoRoot : Str} {N_NoRoot : Addr} {bs_NoRoot : List Value} {sn_NoRoot : List Str} {sb_NoRoot : List Value} {ab_NoRoot : Bool} {co_NoRoot : Option Bool} {dd_NoRoot : Option Addr} {m0_NoRoot m1_NoRoot m2_NoRoot m3_NoRoot m5_NoRoot : Option Value}
    {nm_NoShare q_NoShare : Str} {N_NoShare : Addr} {bs_NoShare : List Value} {sn_NoShare : List Str} {sb_NoShare : List Value} {ab_NoShare : Bool} {co_NoShare : Option Bool} {dd_NoShare : Option Addr} {m0_NoShare m1_NoShare m2_NoShare m3_NoShare m5_NoShare : Option Value}
    {nm_BadLength q_BadLength : Str} {N_BadLength : Addr} {bs_BadLength : List Value} {sn_BadLength : List Str} {sb_BadLength : List Value} {ab_BadLength : Bool} {co_BadLength : Option Bool} {dd_BadLength : Option Addr} {m0_BadLength m1_BadLength m2_BadLength m3_BadLength m5_BadLength : Option Value}
    {nm_BadText q_BadText : Str} {N_BadText : Addr} {bs_BadText : List Value} {sn_BadText : List Str} {sb_BadText : List Value} {ab_BadText : Bool} {co_BadText : Option Bool} {dd_BadText : Option Addr} {m0_BadText m1_BadText m2_BadText m3_BadText m5_BadText : Option Value}
    {nm_BadStep q_BadStep : Str} {N_BadStep : Addr} {bs_BadStep : List Value} {sn_BadStep : List Str} {sb_BadStep : List Value} {ab_BadStep : Bool} {co_BadStep : Option Bool} {dd_BadStep : Option Addr} {m0_BadStep m1_BadStep m2_BadStep m3_BadStep m5_BadStep : Option Value}
    {nm_NotDone q_NotDone : Str} {N_NotDone : Addr} {bs_NotDone : List Value} {sn_NotDone : List Str} {sb_NotDone : List Value} {ab_NotDone : Bool} {co_NotDone : Option Bool} {dd_NotDone : Option Addr} {m0_NotDone m1_NotDone m2_NotDone m3_NotDone m5_NotDone : Option Value}
    {nm_TooSmall q_TooSmall : Str} {N_TooSmall : Addr} {bs_TooSmall : List Value} {sn_TooSmall : List Str} {sb_TooSmall : List Value} {ab_TooSmall : Bool} {co_TooSmall : Option Bool} {dd_TooSmall : Option Addr} {m0_TooSmall m1_TooSmall m2_TooSmall m3_TooSmall m5_TooSmall : Option Value}
    {nm_BadOrder q_BadOrder : Str} {N_BadOrder : Addr} {bs_BadOrder : List Value} {sn_BadOrder : List Str} {sb_BadOrder : List Value} {ab_BadOrder : Bool} {co_BadOrder : Option Bool} {dd_BadOrder : Option Addr} {m0_BadOrder m1_BadOrder m2_BadOrder m3_BadOrder m5_BadOrder : Option Value}
    {nm_NotEven q_NotEven : Str} {N_NotEven : Addr} {bs_NotEven : List Value} {sn_NotEven : List Str} {sb_NotEven : List Value} {ab_NotEven : Bool} {co_NotEven : Option Bool} {dd_NotEven : Option Addr} {m0_NotEven m1_NotEven m2_NotEven m3_NotEven m5_NotEven : Option Value}
    {nm_NotKept q_NotKept : Str} {N_NotKept : Addr} {bs_NotKept : List Value} {sn_NotKept : List Str} {sb_NotKept : List Value} {ab_NotKept : Bool} {co_NotKept : Option Bool} {dd_NotKept : Option Addr} {m0_NotKept m1_NotKept m2_NotKept m3_NotKept m5_NotKept : Option Value}
    {nm_BadDeed q_BadDeed : Str} {N_BadDeed : Addr} {bs_BadDeed : List Value} {sn_BadDeed : List Str} {sb_BadDeed : List Value} {ab_BadDeed : Bool} {co_BadDeed : Option Bool} {dd_BadDeed : Option Addr} {m0_BadDeed m1_BadDeed m2_BadDeed m3_BadDeed m5_BadDeed : Option Value}
    {nm_BadLine q_BadLine : Str} {N_BadLine : Addr} {bs_BadLine : List Value} {sn_BadLine : List Str} {sb_BadLine : List Value} {ab_BadLine : Bool} {co_BadLine : Option Bool} {dd_BadLine : Option Addr} {m0_BadLine m1_BadLine m2_BadLine m3_BadLine m5_BadLine : Option Value}
    {a_SHORTS : Addr} {dd_SHORTS : Option Addr} {n_SHORTS : Nat} {sl_SHORTS : Array (Option Value)} {t_SHORTS_0 : Tok} {t_SHORTS_1 : Tok} {t_SHORTS_2 : Tok} {t_SHORTS_3 : Tok}
    {a_TABLE : Addr} {dd_TABLE : Option Addr} {n_TABLE : Nat} {sl_TABLE : Array (Option Value)} {t_TABLE_0 : Tok} {t_TABLE_1 : Tok}
    {a_PRIMES : Addr} {dd_PRIMES : Option Addr} {n_PRIMES : Nat} {sl_PRIMES : Array (Option Value)} {t_PRIMES_0 : Tok} {t_PRIMES_1 : Tok} {t_PRIMES_2 : Tok} {t_PRIMES_3 : Tok} {t_PRIMES_4 : Tok} {t_PRIMES_5 : Tok} {t_PRIMES_6 : Tok} {t_PRIMES_7 : Tok}
    {t_BOOK : Tok}
    (g_TurnError : PySem.W.nsIn K mainGlobals "TurnError" = some (some (.ref C_TurnError)))
    (g_NoInverse : PySem.W.nsIn K mainGlobals "NoInverse" = some (some (.ref C_NoInverse)))
    (g_NotCoprime : PySem.W.nsIn K mainGlobals "NotCoprime" = some (some (.ref C_NotCoprime)))
    (g_BadGround : PySem.W.nsIn K mainGlobals "BadGround" = some (some (.ref C_BadGround)))
    (g_NoRoot : PySem.W.nsIn K mainGlobals "NoRoot" = some (some (.ref C_NoRoot)))
    (g_NoShare : PySem.W.nsIn K mainGlobals "NoShare" = some (some (.ref C_NoShare)))
    (g_BadLength : PySem.W.nsIn K mainGlobals "BadLength" = some (some (.ref C_BadLength)))
    (g_BadText : PySem.W.nsIn K mainGlobals "BadText" = some (some (.ref C_BadText)))
    (g_BadStep : PySem.W.nsIn K mainGlobals "BadStep" = some (some (.ref C_BadStep)))
    (g_NotDone : PySem.W.nsIn K mainGlobals "NotDone" = some (some (.ref C_NotDone)))
    (g_TooSmall : PySem.W.nsIn K mainGlobals "TooSmall" = some (some (.ref C_TooSmall)))
    (g_BadOrder : PySem.W.nsIn K mainGlobals "BadOrder" = some (some (.ref C_BadOrder)))
    (g_NotEven : PySem.W.nsIn K mainGlobals "NotEven" = some (some (.ref C_NotEven)))
    (g_NotKept : PySem.W.nsIn K mainGlobals "NotKept" = some (some (.ref C_NotKept)))
    (g_BadDeed : PySem.W.nsIn K mainGlobals "BadDeed" = some (some (.ref C_BadDeed)))
    (g_BadLine : PySem.W.nsIn K mainGlobals "BadLine" = some (some (.ref C_BadLine)))
    (on : PySem.W.specialIn K (.builtin "object.__class__") "__get__" = some (some (.builtin "getset_descriptor.__get__")))
    (ot : PySem.W.takesIn K (.builtin "object.__class__") = some true)
    (eT : PySem.W.subIn K (.ref C_TurnError) (.type "BaseException") = some true)
    (hT : PySem.W.hasDictIn K C_TurnError = true)
    (tT : PySem.W.typeIn K (.ref C_TurnError) = some (.type "type"))
    (xL_TurnError : K.lookup C_TurnError = some (excClassObj nm_TurnError q_TurnError C_TurnError N_TurnError bs_TurnError [.type "ValueError", .type "Exception", .type "BaseException", .type "object"] true sn_TurnError sb_TurnError ab_TurnError co_TurnError dd_TurnError m0_TurnError m1_TurnError m2_TurnError m3_TurnError m5_TurnError "ValueError.__new__"))
    (sa_TurnError : PySem.W.findIn K (.ref C_TurnError) "__setattr__" = some (some (.builtin "object.__setattr__")))
    (ga_TurnError : PySem.W.findIn K (.ref C_TurnError) "__getattribute__" = some (some (.builtin "BaseException.__getattribute__")))
    (gg_TurnError : PySem.W.findIn K (.ref C_TurnError) "__getattr__" = some none)
    (nw_TurnError : PySem.W.findIn K (.ref C_TurnError) "what" = some none)
    (ii_TurnError : PySem.W.findIn K (.ref C_TurnError) "__init__" = some (some (.ref fI)))
    (oc_TurnError : PySem.W.findIn K (.ref C_TurnError) "__class__" = some (some (.builtin "object.__class__")))
    (kC_TurnError : PySem.W.keepIn K (.ref C_TurnError) = true)
    (eC_TurnError : PySem.W.subIn K (.ref C_TurnError) (.type "BaseException") = some true)
    (tC_TurnError : PySem.W.typeIn K (.ref C_TurnError) = some (.type "type"))
    (hC_TurnError : PySem.W.hasDictIn K C_TurnError = true)
    (mo_TurnError : PySem.W.mroIn K C_TurnError (.type "object") = some true)
    (su_TurnError : PySem.W.subIn K (.ref C_TurnError) (.ref C_TurnError) = some true)
    (kv_TurnError : PySem.W.kitOne K (.ref C_TurnError) (.type "ValueError") = some true)
    (kt_TurnError : PySem.W.kitOne K (.ref C_TurnError) (.ref C_TurnError) = some true)
    (xL_NoInverse : K.lookup C_NoInverse = some (excClassObj nm_NoInverse q_NoInverse C_NoInverse N_NoInverse bs_NoInverse [.ref C_TurnError, .type "ValueError", .type "Exception", .type "BaseException", .type "object"] true sn_NoInverse sb_NoInverse ab_NoInverse co_NoInverse dd_NoInverse m0_NoInverse m1_NoInverse m2_NoInverse m3_NoInverse m5_NoInverse "ValueError.__new__"))
    (sa_NoInverse : PySem.W.findIn K (.ref C_NoInverse) "__setattr__" = some (some (.builtin "object.__setattr__")))
    (ga_NoInverse : PySem.W.findIn K (.ref C_NoInverse) "__getattribute__" = some (some (.builtin "BaseException.__getattribute__")))
    (gg_NoInverse : PySem.W.findIn K (.ref C_NoInverse) "__getattr__" = some none)
    (nw_NoInverse : PySem.W.findIn K (.ref C_NoInverse) "what" = some none)
    (ii_NoInverse : PySem.W.findIn K (.ref C_NoInverse) "__init__" = some (some (.ref fI)))
    (oc_NoInverse : PySem.W.findIn K (.ref C_NoInverse) "__class__" = some (some (.builtin "object.__class__")))
    (kC_NoInverse : PySem.W.keepIn K (.ref C_NoInverse) = true)
    (eC_NoInverse : PySem.W.subIn K (.ref C_NoInverse) (.type "BaseException") = some true)
    (tC_NoInverse : PySem.W.typeIn K (.ref C_NoInverse) = some (.type "type"))
    (hC_NoInverse : PySem.W.hasDictIn K C_NoInverse = true)
    (mo_NoInverse : PySem.W.mroIn K C_NoInverse (.type "object") = some true)
    (su_NoInverse : PySem.W.subIn K (.ref C_NoInverse) (.ref C_TurnError) = some true)
    (kv_NoInverse : PySem.W.kitOne K (.ref C_NoInverse) (.type "ValueError") = some true)
    (kt_NoInverse : PySem.W.kitOne K (.ref C_NoInverse) (.ref C_TurnError) = some true)
    (xL_NotCoprime : K.lookup C_NotCoprime = some (excClassObj nm_NotCoprime q_NotCoprime C_NotCoprime N_NotCoprime bs_NotCoprime [.ref C_TurnError, .type "ValueError", .type "Exception", .type "BaseException", .type "object"] true sn_NotCoprime sb_NotCoprime ab_NotCoprime co_NotCoprime dd_NotCoprime m0_NotCoprime m1_NotCoprime m2_NotCoprime m3_NotCoprime m5_NotCoprime "ValueError.__new__"))
    (sa_NotCoprime : PySem.W.findIn K (.ref C_NotCoprime) "__setattr__" = some (some (.builtin "object.__setattr__")))
    (ga_NotCoprime : PySem.W.findIn K (.ref C_NotCoprime) "__getattribute__" = some (some (.builtin "BaseException.__getattribute__")))
    (gg_NotCoprime : PySem.W.findIn K (.ref C_NotCoprime) "__getattr__" = some none)
    (nw_NotCoprime : PySem.W.findIn K (.ref C_NotCoprime) "what" = some none)
    (ii_NotCoprime : PySem.W.findIn K (.ref C_NotCoprime) "__init__" = some (some (.ref fI)))
    (oc_NotCoprime : PySem.W.findIn K (.ref C_NotCoprime) "__class__" = some (some (.builtin "object.__class__")))
    (kC_NotCoprime : PySem.W.keepIn K (.ref C_NotCoprime) = true)
    (eC_NotCoprime : PySem.W.subIn K (.ref C_NotCoprime) (.type "BaseException") = some true)
    (tC_NotCoprime : PySem.W.typeIn K (.ref C_NotCoprime) = some (.type "type"))
    (hC_NotCoprime : PySem.W.hasDictIn K C_NotCoprime = true)
    (mo_NotCoprime : PySem.W.mroIn K C_NotCoprime (.type "object") = some true)
    (su_NotCoprime : PySem.W.subIn K (.ref C_NotCoprime) (.ref C_TurnError) = some true)
    (kv_NotCoprime : PySem.W.kitOne K (.ref C_NotCoprime) (.type "ValueError") = some true)
    (kt_NotCoprime : PySem.W.kitOne K (.ref C_NotCoprime) (.ref C_TurnError) = some true)
    (xL_BadGround : K.lookup C_BadGround = some (excClassObj nm_BadGround q_BadGround C_BadGround N_BadGround bs_BadGround [.ref C_TurnError, .type "ValueError", .type "Exception", .type "BaseException", .type "object"] true sn_BadGround sb_BadGround ab_BadGround co_BadGround dd_BadGround m0_BadGround m1_BadGround m2_BadGround m3_BadGround m5_BadGround "ValueError.__new__"))
    (sa_BadGround : PySem.W.findIn K (.ref C_BadGround) "__setattr__" = some (some (.builtin "object.__setattr__")))
    (ga_BadGround : PySem.W.findIn K (.ref C_BadGround) "__getattribute__" = some (some (.builtin "BaseException.__getattribute__")))
    (gg_BadGround : PySem.W.findIn K (.ref C_BadGround) "__getattr__" = some none)
    (nw_BadGround : PySem.W.findIn K (.ref C_BadGround) "what" = some none)
    (ii_BadGround : PySem.W.findIn K (.ref C_BadGround) "__init__" = some (some (.ref fI)))
    (oc_BadGround : PySem.W.findIn K (.ref C_BadGround) "__class__" = some (some (.builtin "object.__class__")))
    (kC_BadGround : PySem.W.keepIn K (.ref C_BadGround) = true)
    (eC_BadGround : PySem.W.subIn K (.ref C_BadGround) (.type "BaseException") = some true)
    (tC_BadGround : PySem.W.typeIn K (.ref C_BadGround) = some (.type "type"))
    (hC_BadGround : PySem.W.hasDictIn K C_BadGround = true)
    (mo_BadGround : PySem.W.mroIn K C_BadGround (.type "object") = some true)
    (su_BadGround : PySem.W.subIn K (.ref C_BadGround) (.ref C_TurnError) = some true)
    (kv_BadGround : PySem.W.kitOne K (.ref C_BadGround) (.type "ValueError") = some true)
    (kt_BadGround : PySem.W.kitOne K (.ref C_BadGround) (.ref C_TurnError) = some true)
    (xL_NoRoot : K.lookup C_NoRoot = some (excClassObj nm_NoRoot q_NoRoot C_NoRoot N_NoRoot bs_NoRoot [.ref C_TurnError, .type "ValueError", .type "Exception", .type "BaseException", .type "object"] true sn_NoRoot sb_NoRoot ab_NoRoot co_NoRoot dd_NoRoot m0_NoRoot m1_NoRoot m2_NoRoot m3_NoRoot m5_NoRoot "ValueError.__new__"))
    (sa_NoRoot : PySem.W.findIn K (.ref C_NoRoot) "__setattr__" = some (some (.builtin "object.__setattr__")))
    (ga_NoRoot : PySem.W.findIn K (.ref C_NoRoot) "__getattribute__" = some (some (.builtin "BaseException.__getattribute__")))
    (gg_NoRoot : PySem.W.findIn K (.ref C_NoRoot) "__getattr__" = some none)
    (nw_NoRoot : PySem.W.findIn K (.ref C_NoRoot) "what" = some none)
    (ii_NoRoot : PySem.W.findIn K (.ref C_NoRoot) "__init__" = some (some (.ref fI)))
    (oc_NoRoot : PySem.W.findIn K (.ref C_NoRoot) "__class__" = some (some (.builtin "object.__class__")))
    (kC_NoRoot : PySem.W.keepIn K (.ref C_NoRoot) = true)
    (eC_NoRoot : PySem.W.subIn K (.ref C_NoRoot) (.type "BaseException") = some true)
    (tC_NoRoot : PySem.W.typeIn K (.ref C_NoRoot) = some (.type "type"))
    (hC_NoRoot : PySem.W.hasDictIn K C_NoRoot = true)
    (mo_NoRoot : PySem.W.mroIn K C_NoRoot (.type "object") = some true)
    (su_NoRoot : PySem.W.subIn K (.ref C_NoRoot) (.ref C_TurnError) = some true)
    (kv_NoRoot : PySem.W.kitOne K (.ref C_NoRoot) (.type "ValueError") = some true)
    (kt_NoRoot : PySem.W.kitOne K (.ref C_NoRoot) (.ref C_TurnError) = some true)
    (xL_NoShare : K.lookup C_NoShare = some (excClassObj nm_NoShare q_NoShare C_NoShare N_NoShare bs_NoShare [.ref C_TurnError, .type "ValueError", .type "Exception", .type "BaseException", .type "object"] true sn_NoShare sb_NoShare ab_NoShare co_NoShare dd_NoShare m0_NoShare m1_NoShare m2_NoShare m3_NoShare m5_NoShare "ValueError.__new__"))
    (sa_NoShare : PySem.W.findIn K (.ref C_NoShare) "__setattr__" = some (some (.builtin "object.__setattr__")))
    (ga_NoShare : PySem.W.findIn K (.ref C_NoShare) "__getattribute__" = some (some (.builtin "BaseException.__getattribute__")))
    (gg_NoShare : PySem.W.findIn K (.ref C_NoShare) "__getattr__" = some none)
    (nw_NoShare : PySem.W.findIn K (.ref C_NoShare) "what" = some none)
    (ii_NoShare : PySem.W.findIn K (.ref C_NoShare) "__init__" = some (some (.ref fI)))
    (oc_NoShare : PySem.W.findIn K (.ref C_NoShare) "__class__" = some (some (.builtin "object.__class__")))
    (kC_NoShare : PySem.W.keepIn K (.ref C_NoShare) = true)
    (eC_NoShare : PySem.W.subIn K (.ref C_NoShare) (.type "BaseException") = some true)
    (tC_NoShare : PySem.W.typeIn K (.ref C_NoShare) = some (.type "type"))
    (hC_NoShare : PySem.W.hasDictIn K C_NoShare = true)
    (mo_NoShare : PySem.W.mroIn K C_NoShare (.type "object") = some true)
    (su_NoShare : PySem.W.subIn K (.ref C_NoShare) (.ref C_TurnError) = some true)
    (kv_NoShare : PySem.W.kitOne K (.ref C_NoShare) (.type "ValueError") = some true)
    (kt_NoShare : PySem.W.kitOne K (.ref C_NoShare) (.ref C_TurnError) = some true)
    (xL_BadLength : K.lookup C_BadLength = some (excClassObj nm_BadLength q_BadLength C_BadLength N_BadLength bs_BadLength [.ref C_TurnError, .type "ValueError", .type "Exception", .type "BaseException", .type "object"] true sn_BadLength sb_BadLength ab_BadLength co_BadLength dd_BadLength m0_BadLength m1_BadLength m2_BadLength m3_BadLength m5_BadLength "ValueError.__new__"))
    (sa_BadLength : PySem.W.findIn K (.ref C_BadLength) "__setattr__" = some (some (.builtin "object.__setattr__")))
    (ga_BadLength : PySem.W.findIn K (.ref C_BadLength) "__getattribute__" = some (some (.builtin "BaseException.__getattribute__")))
    (gg_BadLength : PySem.W.findIn K (.ref C_BadLength) "__getattr__" = some none)
    (nw_BadLength : PySem.W.findIn K (.ref C_BadLength) "what" = some none)
    (ii_BadLength : PySem.W.findIn K (.ref C_BadLength) "__init__" = some (some (.ref fI)))
    (oc_BadLength : PySem.W.findIn K (.ref C_BadLength) "__class__" = some (some (.builtin "object.__class__")))
    (kC_BadLength : PySem.W.keepIn K (.ref C_BadLength) = true)
    (eC_BadLength : PySem.W.subIn K (.ref C_BadLength) (.type "BaseException") = some true)
    (tC_BadLength : PySem.W.typeIn K (.ref C_BadLength) = some (.type "type"))
    (hC_BadLength : PySem.W.hasDictIn K C_BadLength = true)
    (mo_BadLength : PySem.W.mroIn K C_BadLength (.type "object") = some true)
    (su_BadLength : PySem.W.subIn K (.ref C_BadLength) (.ref C_TurnError) = some true)
    (kv_BadLength : PySem.W.kitOne K (.ref C_BadLength) (.type "ValueError") = some true)
    (kt_BadLength : PySem.W.kitOne K (.ref C_BadLength) (.ref C_TurnError) = some true)
    (xL_BadText : K.lookup C_BadText = some (excClassObj nm_BadText q_BadText C_BadText N_BadText bs_BadText [.ref C_TurnError, .type "ValueError", .type "Exception", .type "BaseException", .type "object"] true sn_BadText sb_BadText ab_BadText co_BadText dd_BadText m0_BadText m1_BadText m2_BadText m3_BadText m5_BadText "ValueError.__new__"))
    (sa_BadText : PySem.W.findIn K (.ref C_BadText) "__setattr__" = some (some (.builtin "object.__setattr__")))
    (ga_BadText : PySem.W.findIn K (.ref C_BadText) "__getattribute__" = some (some (.builtin "BaseException.__getattribute__")))
    (gg_BadText : PySem.W.findIn K (.ref C_BadText) "__getattr__" = some none)
    (nw_BadText : PySem.W.findIn K (.ref C_BadText) "what" = some none)
    (ii_BadText : PySem.W.findIn K (.ref C_BadText) "__init__" = some (some (.ref fI)))
    (oc_BadText : PySem.W.findIn K (.ref C_BadText) "__class__" = some (some (.builtin "object.__class__")))
    (kC_BadText : PySem.W.keepIn K (.ref C_BadText) = true)
    (eC_BadText : PySem.W.subIn K (.ref C_BadText) (.type "BaseException") = some true)
    (tC_BadText : PySem.W.typeIn K (.ref C_BadText) = some (.type "type"))
    (hC_BadText : PySem.W.hasDictIn K C_BadText = true)
    (mo_BadText : PySem.W.mroIn K C_BadText (.type "object") = some true)
    (su_BadText : PySem.W.subIn K (.ref C_BadText) (.ref C_TurnError) = some true)
    (kv_BadText : PySem.W.kitOne K (.ref C_BadText) (.type "ValueError") = some true)
    (kt_BadText : PySem.W.kitOne K (.ref C_BadText) (.ref C_TurnError) = some true)
    (xL_BadStep : K.lookup C_BadStep = some (excClassObj nm_BadStep q_BadStep C_BadStep N_BadStep bs_BadStep [.ref C_TurnError, .type "ValueError", .type "Exception", .type "BaseException", .type "object"] true sn_BadStep sb_BadStep ab_BadStep co_BadStep dd_BadStep m0_BadStep m1_BadStep m2_BadStep m3_BadStep m5_BadStep "ValueError.__new__"))
    (sa_BadStep : PySem.W.findIn K (.ref C_BadStep) "__setattr__" = some (some (.builtin "object.__setattr__")))
    (ga_BadStep : PySem.W.findIn K (.ref C_BadStep) "__getattribute__" = some (some (.builtin "BaseException.__getattribute__")))
    (gg_BadStep : PySem.W.findIn K (.ref C_BadStep) "__getattr__" = some none)
    (nw_BadStep : PySem.W.findIn K (.ref C_BadStep) "what" = some none)
    (ii_BadStep : PySem.W.findIn K (.ref C_BadStep) "__init__" = some (some (.ref fI)))
    (oc_BadStep : PySem.W.findIn K (.ref C_BadStep) "__class__" = some (some (.builtin "object.__class__")))
    (kC_BadStep : PySem.W.keepIn K (.ref C_BadStep) = true)
    (eC_BadStep : PySem.W.subIn K (.ref C_BadStep) (.type "BaseException") = some true)
    (tC_BadStep : PySem.W.typeIn K (.ref C_BadStep) = some (.type "type"))
    (hC_BadStep : PySem.W.hasDictIn K C_BadStep = true)
    (mo_BadStep : PySem.W.mroIn K C_BadStep (.type "object") = some true)
    (su_BadStep : PySem.W.subIn K (.ref C_BadStep) (.ref C_TurnError) = some true)
    (kv_BadStep : PySem.W.kitOne K (.ref C_BadStep) (.type "ValueError") = some true)
    (kt_BadStep : PySem.W.kitOne K (.ref C_BadStep) (.ref C_TurnError) = some true)
    (xL_NotDone : K.lookup C_NotDone = some (excClassObj nm_NotDone q_NotDone C_NotDone N_NotDone bs_NotDone [.ref C_TurnError, .type "ValueError", .type "Exception", .type "BaseException", .type "object"] true sn_NotDone sb_NotDone ab_NotDone co_NotDone dd_NotDone m0_NotDone m1_NotDone m2_NotDone m3_NotDone m5_NotDone "ValueError.__new__"))
    (sa_NotDone : PySem.W.findIn K (.ref C_NotDone) "__setattr__" = some (some (.builtin "object.__setattr__")))
    (ga_NotDone : PySem.W.findIn K (.ref C_NotDone) "__getattribute__" = some (some (.builtin "BaseException.__getattribute__")))
    (gg_NotDone : PySem.W.findIn K (.ref C_NotDone) "__getattr__" = some none)
    (nw_NotDone : PySem.W.findIn K (.ref C_NotDone) "what" = some none)
    (ii_NotDone : PySem.W.findIn K (.ref C_NotDone) "__init__" = some (some (.ref fI)))
    (oc_NotDone : PySem.W.findIn K (.ref C_NotDone) "__class__" = some (some (.builtin "object.__class__")))
    (kC_NotDone : PySem.W.keepIn K (.ref C_NotDone) = true)
    (eC_NotDone : PySem.W.subIn K (.ref C_NotDone) (.type "BaseException") = some true)
    (tC_NotDone : PySem.W.typeIn K (.ref C_NotDone) = some (.type "type"))
    (hC_NotDone : PySem.W.hasDictIn K C_NotDone = true)
    (mo_NotDone : PySem.W.mroIn K C_NotDone (.type "object") = some true)
    (su_NotDone : PySem.W.subIn K (.ref C_NotDone) (.ref C_TurnError) = some true)
    (kv_NotDone : PySem.W.kitOne K (.ref C_NotDone) (.type "ValueError") = some true)
    (kt_NotDone : PySem.W.kitOne K (.ref C_NotDone) (.ref C_TurnError) = some true)
    (xL_TooSmall : K.lookup C_TooSmall = some (excClassObj nm_TooSmall q_TooSmall C_TooSmall N_TooSmall bs_TooSmall [.ref C_TurnError, .type "ValueError", .type "Exception", .type "BaseException", .type "object"] true sn_TooSmall sb_TooSmall ab_TooSmall co_TooSmall dd_TooSmall m0_TooSmall m1_TooSmall m2_TooSmall m3_TooSmall m5_TooSmall "ValueError.__new__"))
    (sa_TooSmall : PySem.W.findIn K (.ref C_TooSmall) "__setattr__" = some (some (.builtin "object.__setattr__")))
    (ga_TooSmall : PySem.W.findIn K (.ref C_TooSmall) "__getattribute__" = some (some (.builtin "BaseException.__getattribute__")))
    (gg_TooSmall : PySem.W.findIn K (.ref C_TooSmall) "__getattr__" = some none)
    (nw_TooSmall : PySem.W.findIn K (.ref C_TooSmall) "what" = some none)
    (ii_TooSmall : PySem.W.findIn K (.ref C_TooSmall) "__init__" = some (some (.ref fI)))
    (oc_TooSmall : PySem.W.findIn K (.ref C_TooSmall) "__class__" = some (some (.builtin "object.__class__")))
    (kC_TooSmall : PySem.W.keepIn K (.ref C_TooSmall) = true)
    (eC_TooSmall : PySem.W.subIn K (.ref C_TooSmall) (.type "BaseException") = some true)
    (tC_TooSmall : PySem.W.typeIn K (.ref C_TooSmall) = some (.type "type"))
    (hC_TooSmall : PySem.W.hasDictIn K C_TooSmall = true)
    (mo_TooSmall : PySem.W.mroIn K C_TooSmall (.type "object") = some true)
    (su_TooSmall : PySem.W.subIn K (.ref C_TooSmall) (.ref C_TurnError) = some true)
    (kv_TooSmall : PySem.W.kitOne K (.ref C_TooSmall) (.type "ValueError") = some true)
    (kt_TooSmall : PySem.W.kitOne K (.ref C_TooSmall) (.ref C_TurnError) = some true)
    (xL_BadOrder : K.lookup C_BadOrder = some (excClassObj nm_BadOrder q_BadOrder C_BadOrder N_BadOrder bs_BadOrder [.ref C_TurnError, .type "ValueError", .type "Exception", .type "BaseException", .type "object"] true sn_BadOrder sb_BadOrder ab_BadOrder co_BadOrder dd_BadOrder m0_BadOrder m1_BadOrder m2_BadOrder m3_BadOrder m5_BadOrder "ValueError.__new__"))
    (sa_BadOrder : PySem.W.findIn K (.ref C_BadOrder) "__setattr__" = some (some (.builtin "object.__setattr__")))
    (ga_BadOrder : PySem.W.findIn K (.ref C_BadOrder) "__getattribute__" = some (some (.builtin "BaseException.__getattribute__")))
    (gg_BadOrder : PySem.W.findIn K (.ref C_BadOrder) "__getattr__" = some none)
    (nw_BadOrder : PySem.W.findIn K (.ref C_BadOrder) "what" = some none)
    (ii_BadOrder : PySem.W.findIn K (.ref C_BadOrder) "__init__" = some (some (.ref fI)))
    (oc_BadOrder : PySem.W.findIn K (.ref C_BadOrder) "__class__" = some (some (.builtin "object.__class__")))
    (kC_BadOrder : PySem.W.keepIn K (.ref C_BadOrder) = true)
    (eC_BadOrder : PySem.W.subIn K (.ref C_BadOrder) (.type "BaseException") = some true)
    (tC_BadOrder : PySem.W.typeIn K (.ref C_BadOrder) = some (.type "type"))
    (hC_BadOrder : PySem.W.hasDictIn K C_BadOrder = true)
    (mo_BadOrder : PySem.W.mroIn K C_BadOrder (.type "object") = some true)
    (su_BadOrder : PySem.W.subIn K (.ref C_BadOrder) (.ref C_TurnError) = some true)
    (kv_BadOrder : PySem.W.kitOne K (.ref C_BadOrder) (.type "ValueError") = some true)
    (kt_BadOrder : PySem.W.kitOne K (.ref C_BadOrder) (.ref C_TurnError) = some true)
    (xL_NotEven : K.lookup C_NotEven = some (excClassObj nm_NotEven q_NotEven C_NotEven N_NotEven bs_NotEven [.ref C_TurnError, .type "ValueError", .type "Exception", .type "BaseException", .type "object"] true sn_NotEven sb_NotEven ab_NotEven co_NotEven dd_NotEven m0_NotEven m1_NotEven m2_NotEven m3_NotEven m5_NotEven "ValueError.__new__"))
    (sa_NotEven : PySem.W.findIn K (.ref C_NotEven) "__setattr__" = some (some (.builtin "object.__setattr__")))
    (ga_NotEven : PySem.W.findIn K (.ref C_NotEven) "__getattribute__" = some (some (.builtin "BaseException.__getattribute__")))
    (gg_NotEven : PySem.W.findIn K (.ref C_NotEven) "__getattr__" = some none)
    (nw_NotEven : PySem.W.findIn K (.ref C_NotEven) "what" = some none)
    (ii_NotEven : PySem.W.findIn K (.ref C_NotEven) "__init__" = some (some (.ref fI)))
    (oc_NotEven : PySem.W.findIn K (.ref C_NotEven) "__class__" = some (some (.builtin "object.__class__")))
    (kC_NotEven : PySem.W.keepIn K (.ref C_NotEven) = true)
    (eC_NotEven : PySem.W.subIn K (.ref C_NotEven) (.type "BaseException") = some true)
    (tC_NotEven : PySem.W.typeIn K (.ref C_NotEven) = some (.type "type"))
    (hC_NotEven : PySem.W.hasDictIn K C_NotEven = true)
    (mo_NotEven : PySem.W.mroIn K C_NotEven (.type "object") = some true)
    (su_NotEven : PySem.W.subIn K (.ref C_NotEven) (.ref C_TurnError) = some true)
    (kv_NotEven : PySem.W.kitOne K (.ref C_NotEven) (.type "ValueError") = some true)
    (kt_NotEven : PySem.W.kitOne K (.ref C_NotEven) (.ref C_TurnError) = some true)
    (xL_NotKept : K.lookup C_NotKept = some (excClassObj nm_NotKept q_NotKept C_NotKept N_NotKept bs_NotKept [.ref C_TurnError, .type "ValueError", .type "Exception", .type "BaseException", .type "object"] true sn_NotKept sb_NotKept ab_NotKept co_NotKept dd_NotKept m0_NotKept m1_NotKept m2_NotKept m3_NotKept m5_NotKept "ValueError.__new__"))
    (sa_NotKept : PySem.W.findIn K (.ref C_NotKept) "__setattr__" = some (some (.builtin "object.__setattr__")))
    (ga_NotKept : PySem.W.findIn K (.ref C_NotKept) "__getattribute__" = some (some (.builtin "BaseException.__getattribute__")))
    (gg_NotKept : PySem.W.findIn K (.ref C_NotKept) "__getattr__" = some none)
    (nw_NotKept : PySem.W.findIn K (.ref C_NotKept) "what" = some none)
    (ii_NotKept : PySem.W.findIn K (.ref C_NotKept) "__init__" = some (some (.ref fI)))
    (oc_NotKept : PySem.W.findIn K (.ref C_NotKept) "__class__" = some (some (.builtin "object.__class__")))
    (kC_NotKept : PySem.W.keepIn K (.ref C_NotKept) = true)
    (eC_NotKept : PySem.W.subIn K (.ref C_NotKept) (.type "BaseException") = some true)
    (tC_NotKept : PySem.W.typeIn K (.ref C_NotKept) = some (.type "type"))
    (hC_NotKept : PySem.W.hasDictIn K C_NotKept = true)
    (mo_NotKept : PySem.W.mroIn K C_NotKept (.type "object") = some true)
    (su_NotKept : PySem.W.subIn K (.ref C_NotKept) (.ref C_TurnError) = some true)
    (kv_NotKept : PySem.W.kitOne K (.ref C_NotKept) (.type "ValueError") = some true)
    (kt_NotKept : PySem.W.kitOne K (.ref C_NotKept) (.ref C_TurnError) = some true)
    (xL_BadDeed : K.lookup C_BadDeed = some (excClassObj nm_BadDeed q_BadDeed C_BadDeed N_BadDeed bs_BadDeed [.ref C_TurnError, .type "ValueError", .type "Exception", .type "BaseException", .type "object"] true sn_BadDeed sb_BadDeed ab_BadDeed co_BadDeed dd_BadDeed m0_BadDeed m1_BadDeed m2_BadDeed m3_BadDeed m5_BadDeed "ValueError.__new__"))
    (sa_BadDeed : PySem.W.findIn K (.ref C_BadDeed) "__setattr__" = some (some (.builtin "object.__setattr__")))
    (ga_BadDeed : PySem.W.findIn K (.ref C_BadDeed) "__getattribute__" = some (some (.builtin "BaseException.__getattribute__")))
    (gg_BadDeed : PySem.W.findIn K (.ref C_BadDeed) "__getattr__" = some none)
    (nw_BadDeed : PySem.W.findIn K (.ref C_BadDeed) "what" = some none)
    (ii_BadDeed : PySem.W.findIn K (.ref C_BadDeed) "__init__" = some (some (.ref fI)))
    (oc_BadDeed : PySem.W.findIn K (.ref C_BadDeed) "__class__" = some (some (.builtin "object.__class__")))
    (kC_BadDeed : PySem.W.keepIn K (.ref C_BadDeed) = true)
    (eC_BadDeed : PySem.W.subIn K (.ref C_BadDeed) (.type "BaseException") = some true)
    (tC_BadDeed : PySem.W.typeIn K (.ref C_BadDeed) = some (.type "type"))
    (hC_BadDeed : PySem.W.hasDictIn K C_BadDeed = true)
    (mo_BadDeed : PySem.W.mroIn K C_BadDeed (.type "object") = some true)
    (su_BadDeed : PySem.W.subIn K (.ref C_BadDeed) (.ref C_TurnError) = some true)
    (kv_BadDeed : PySem.W.kitOne K (.ref C_BadDeed) (.type "ValueError") = some true)
    (kt_BadDeed : PySem.W.kitOne K (.ref C_BadDeed) (.ref C_TurnError) = some true)
    (xL_BadLine : K.lookup C_BadLine = some (excClassObj nm_BadLine q_BadLine C_BadLine N_BadLine bs_BadLine [.ref C_TurnError, .type "ValueError", .type "Exception", .type "BaseException", .type "object"] true sn_BadLine sb_BadLine ab_BadLine co_BadLine dd_BadLine m0_BadLine m1_BadLine m2_BadLine m3_BadLine m5_BadLine "ValueError.__new__"))
    (sa_BadLine : PySem.W.findIn K (.ref C_BadLine) "__setattr__" = some (some (.builtin "object.__setattr__")))
    (ga_BadLine : PySem.W.findIn K (.ref C_BadLine) "__getattribute__" = some (some (.builtin "BaseException.__getattribute__")))
    (gg_BadLine : PySem.W.findIn K (.ref C_BadLine) "__getattr__" = some none)
    (nw_BadLine : PySem.W.findIn K (.ref C_BadLine) "what" = some none)
    (ii_BadLine : PySem.W.findIn K (.ref C_BadLine) "__init__" = some (some (.ref fI)))
    (oc_BadLine : PySem.W.findIn K (.ref C_BadLine) "__class__" = some (some (.builtin "object.__class__")))
    (kC_BadLine : PySem.W.keepIn K (.ref C_BadLine) = true)
    (eC_BadLine : PySem.W.subIn K (.ref C_BadLine) (.type "BaseException") = some true)
    (tC_BadLine : PySem.W.typeIn K (.ref C_BadLine) = some (.type "type"))
    (hC_BadLine : PySem.W.hasDictIn K C_BadLine = true)
    (mo_BadLine : PySem.W.mroIn K C_BadLine (.type "object") = some true)
    (su_BadLine : PySem.W.subIn K (.ref C_BadLine) (.ref C_TurnError) = some true)
    (kv_BadLine : PySem.W.kitOne K (.ref C_BadLine) (.type "ValueError") = some true)
    (kt_BadLine : PySem.W.kitOne K (.ref C_BadLine) (.ref C_TurnError) = some true)
    (lI : K.lookup fI = some ⟨ocI, odI, .func (PySem.W.fnOf "__init__" "TurnError.__init__" (defArgs s_init) (defBody s_init) (defScope s_init) .none kVI dcI pmI anI cdI ctI), slI⟩)
    (cI : PySem.W.codeIn K cdI "TurnError.__init__" = true)
    (kI : PySem.W.keepIn K (.ref fI) = true)
    (tI : PySem.W.typeIn K (.ref fI) = some (.type "function"))
    (g_SHORTS : PySem.W.nsIn K mainGlobals "SHORTS" = some (some (.ref a_SHORTS)))
    (l_SHORTS : K.lookup a_SHORTS = some ⟨.type "tuple", dd_SHORTS, .seq #[.int 1 t_SHORTS_0, .int 2 t_SHORTS_1, .int 3 t_SHORTS_2, .int 4 t_SHORTS_3] n_SHORTS, sl_SHORTS⟩)
    (g_TABLE : PySem.W.nsIn K mainGlobals "TABLE" = some (some (.ref a_TABLE)))
    (l_TABLE : K.lookup a_TABLE = some ⟨.type "tuple", dd_TABLE, .seq #[.int 1 t_TABLE_0, .int 3 t_TABLE_1] n_TABLE, sl_TABLE⟩)
    (g_PRIMES : PySem.W.nsIn K mainGlobals "PRIMES" = some (some (.ref a_PRIMES)))
    (l_PRIMES : K.lookup a_PRIMES = some ⟨.type "tuple", dd_PRIMES, .seq #[.int 97 t_PRIMES_0, .int 193 t_PRIMES_1, .int 241 t_PRIMES_2, .int 257 t_PRIMES_3, .int 337 t_PRIMES_4, .int 421 t_PRIMES_5, .int 577 t_PRIMES_6, .int 2521 t_PRIMES_7] n_PRIMES, sl_PRIMES⟩)
    (g_BOOK : PySem.W.nsIn K mainGlobals "BOOK" = some (some (.int 6 t_BOOK)))
    (fkm : ([C_NoInverse, C_NotCoprime, C_BadGround, C_NoRoot, C_NoShare, C_BadLength, C_BadText, C_BadStep, C_NotDone, C_TooSmall, C_BadOrder, C_NotEven, C_NotKept, C_BadDeed, C_BadLine].map fun c => [C_NoInverse, C_NotCoprime, C_BadGround, C_NoRoot, C_NoShare, C_BadLength, C_BadText, C_BadStep, C_NotDone, C_TooSmall, C_BadOrder, C_NotEven, C_NotKept, C_BadDeed, C_BadLine].map fun d => PySem.W.kitOne K (.ref c) (.ref d)) = (List.range 15).map fun i => (List.range 15).map fun j => some (decide (i = j)))
    (fkt : ([C_NoInverse, C_NotCoprime, C_BadGround, C_NoRoot, C_NoShare, C_BadLength, C_BadText, C_BadStep, C_NotDone, C_TooSmall, C_BadOrder, C_NotEven, C_NotKept, C_BadDeed, C_BadLine].map fun d => PySem.W.kitOne K (.ref C_TurnError) (.ref d)) = List.replicate 15 (some false))
    (a0 : PySem.W.nsIn K mainGlobals "_law_box" = some (some (.ref f0))) (l0 : K.lookup f0 = some ⟨oc0, od0, .func (PySem.W.fnOf "_law_box" "_law_box" (defArgs s__law_box) (defBody s__law_box) (defScope s__law_box) .none kV0 dc0 pm0 an0 cd0 ct0), sl0⟩) (c0 : PySem.W.codeIn K cd0 "_law_box" = true) (k0 : PySem.W.keepIn K (.ref f0) = true)
    (a1 : PySem.W.nsIn K mainGlobals "_law_take" = some (some (.ref f1))) (l1 : K.lookup f1 = some ⟨oc1, od1, .func (PySem.W.fnOf "_law_take" "_law_take" (defArgs s__law_take) (defBody s__law_take) (defScope s__law_take) .none kV1 dc1 pm1 an1 cd1 ct1), sl1⟩) (c1 : PySem.W.codeIn K cd1 "_law_take" = true) (k1 : PySem.W.keepIn K (.ref f1) = true)
    (a2 : PySem.W.nsIn K mainGlobals "_law_pick" = some (some (.ref f2))) (l2 : K.lookup f2 = some ⟨oc2, od2, .func (PySem.W.fnOf "_law_pick" "_law_pick" (defArgs s__law_pick) (defBody s__law_pick) (defScope s__law_pick) .none kV2 dc2 pm2 an2 cd2 ct2), sl2⟩) (c2 : PySem.W.codeIn K cd2 "_law_pick" = true) (k2 : PySem.W.keepIn K (.ref f2) = true)
    (a3 : PySem.W.nsIn K mainGlobals "_law_folded" = some (some (.ref f3))) (l3 : K.lookup f3 = some ⟨oc3, od3, .func (PySem.W.fnOf "_law_folded" "_law_folded" (defArgs s__law_folded) (defBody s__law_folded) (defScope s__law_folded) .none kV3 dc3 pm3 an3 cd3 ct3), sl3⟩) (c3 : PySem.W.codeIn K cd3 "_law_folded" = true) (k3 : PySem.W.keepIn K (.ref f3) = true)
    (a4 : PySem.W.nsIn K mainGlobals "_law_same" = some (some (.ref f4))) (l4 : K.lookup f4 = some ⟨oc4, od4, .func (PySem.W.fnOf "_law_same" "_law_same" (defArgs s__law_same) (defBody s__law_same) (defScope s__law_same) .none kV4 dc4 pm4 an4 cd4 ct4), sl4⟩) (c4 : PySem.W.codeIn K cd4 "_law_same" = true) (k4 : PySem.W.keepIn K (.ref f4) = true)
    (a5 : PySem.W.nsIn K mainGlobals "_law_marks" = some (some (.ref f5))) (l5 : K.lookup f5 = some ⟨oc5, od5, .func (PySem.W.fnOf "_law_marks" "_law_marks" (defArgs s__law_marks) (defBody s__law_marks) (defScope s__law_marks) .none kV5 dc5 pm5 an5 cd5 ct5), sl5⟩) (c5 : PySem.W.codeIn K cd5 "_law_marks" = true) (k5 : PySem.W.keepIn K (.ref f5) = true)
    (a6 : PySem.W.nsIn K mainGlobals "_law_all" = some (some (.ref f6))) (l6 : K.lookup f6 = some ⟨oc6, od6, .func (PySem.W.fnOf "_law_all" "_law_all" (defArgs s__law_all) (defBody s__law_all) (defScope s__law_all) .none kV6 dc6 pm6 an6 cd6 ct6), sl6⟩) (c6 : PySem.W.codeIn K cd6 "_law_all" = true) (k6 : PySem.W.keepIn K (.ref f6) = true)
    (a7 : PySem.W.nsIn K mainGlobals "_law_all_named" = some (some (.ref f7))) (l7 : K.lookup f7 = some ⟨oc7, od7, .func (PySem.W.fnOf "_law_all_named" "_law_all_named" (defArgs s__law_all_named) (defBody s__law_all_named) (defScope s__law_all_named) .none kV7 dc7 pm7 an7 cd7 ct7), sl7⟩) (c7 : PySem.W.codeIn K cd7 "_law_all_named" = true) (k7 : PySem.W.keepIn K (.ref f7) = true)
    (a8 : PySem.W.nsIn K mainGlobals "law" = some (some (.ref f8))) (l8 : K.lookup f8 = some ⟨oc8, od8, .func (PySem.W.fnOf "law" "law" (defArgs s_law) (defBody s_law) (defScope s_law) .none kV8 dc8 pm8 an8 cd8 ct8), sl8⟩) (c8 : PySem.W.codeIn K cd8 "law" = true) (k8 : PySem.W.keepIn K (.ref f8) = true)
    (z0 : PySem.W.nsIn K mainGlobals "ValueError" = some none) (z1 : PySem.W.nsIn K mainGlobals "abs" = some none) (z2 : PySem.W.nsIn K mainGlobals "all" = some none) (z3 : PySem.W.nsIn K mainGlobals "bool" = some none) (z4 : PySem.W.nsIn K mainGlobals "enumerate" = some none) (z5 : PySem.W.nsIn K mainGlobals "int" = some none) (z6 : PySem.W.nsIn K mainGlobals "isinstance" = some none) (z7 : PySem.W.nsIn K mainGlobals "len" = some none) (z8 : PySem.W.nsIn K mainGlobals "list" = some none) (z9 : PySem.W.nsIn K mainGlobals "str" = some none) (z10 : PySem.W.nsIn K mainGlobals "tuple" = some none) (z11 : PySem.W.nsIn K mainGlobals "zip" = some none) :
    ∃ fd : FuncData, (∀ (s : Shared) (v : Value), BindsTo s fd ⟨[v], []⟩ [("_law_script", v)]) ∧ ∀ base : Heap, K.In base → base.Ns mainGlobals mg → FnOk l.prog w K mg base CX0 6 fa fd ["_law_script"] (spLaw K) := by
  have e := hfa.symm.trans (PySem.W.mg_of X G a8)
  cases e
  have T : Blt mg := ⟨PySem.W.mg_none_of X G z0, PySem.W.mg_none_of X G z1, PySem.W.mg_none_of X G z2, PySem.W.mg_none_of X G z3, PySem.W.mg_none_of X G z4, PySem.W.mg_none_of X G z5, PySem.W.mg_none_of X G z6, PySem.W.mg_none_of X G z7, PySem.W.mg_none_of X G z8, PySem.W.mg_none_of X G z9, PySem.W.mg_none_of X G z10, PySem.W.mg_none_of X G z11⟩
  have F0 := fun_mk (st := s__law_box) l0 c0 k0
  have b0 := F0.binds (ps := P__law_box) fun _ _ _ _ _ _ us hl => match us, hl with | [_, _], _ => rfl
  have F1 := fun_mk (st := s__law_take) l1 c1 k1
  have b1 := F1.binds (ps := P__law_take) fun _ _ _ _ _ _ us hl => match us, hl with | [_, _], _ => rfl
  have F2 := fun_mk (st := s__law_pick) l2 c2 k2
  have b2 := F2.binds (ps := P__law_pick) fun _ _ _ _ _ _ us hl => match us, hl with | [_, _], _ => rfl
  have F3 := fun_mk (st := s__law_folded) l3 c3 k3
  have b3 := F3.binds (ps := P__law_folded) fun _ _ _ _ _ _ us hl => match us, hl with | [_, _], _ => rfl
  have F4 := fun_mk (st := s__law_same) l4 c4 k4
  have b4 := F4.binds (ps := P__law_same) fun _ _ _ _ _ _ us hl => match us, hl with | [_, _], _ => rfl
  have F5 := fun_mk (st := s__law_marks) l5 c5 k5
  have b5 := F5.binds (ps := P__law_marks) fun _ _ _ _ _ _ us hl => match us, hl with | [_], _ => rfl
  have F6 := fun_mk (st := s__law_all) l6 c6 k6
  have b6 := F6.binds (ps := P__law_all) fun _ _ _ _ _ _ us hl => match us, hl with | [_], _ => rfl
  have F7 := fun_mk (st := s__law_all_named) l7 c7 k7
  have b7 := F7.binds (ps := P__law_all_named) fun _ _ _ _ _ _ us hl => match us, hl with | [_], _ => rfl
  have F8 := fun_mk (st := s_law) l8 c8 k8
  have F_I := fun_mk (st := s_init) lI cI kI
  have b_I := F_I.binds (ps := N_init) fun _ _ _ _ _ _ us hl => match us, hl with | [_, _], _ => rfl
  have EK_TurnError : ExK K C_TurnError := ⟨⟨⟨nm_TurnError, q_TurnError, N_TurnError, bs_TurnError, _, sn_TurnError, sb_TurnError, ab_TurnError, co_TurnError, dd_TurnError, m0_TurnError, m1_TurnError, m2_TurnError, m3_TurnError, m5_TurnError, xL_TurnError, rfl⟩, sa_TurnError, eC_TurnError, tC_TurnError, kC_TurnError⟩, ⟨ga_TurnError, gg_TurnError, eC_TurnError, hC_TurnError⟩, ⟨ga_TurnError, gg_TurnError, eC_TurnError, hC_TurnError, oc_TurnError, on, ot, mo_TurnError⟩, nw_TurnError⟩
  have R_TurnError : Ref K C_TurnError C_TurnError fI := ⟨EK_TurnError, ii_TurnError, PySem.W.exm_ref eT hT tT su_TurnError, kv_TurnError, kt_TurnError⟩
  have EK_NoInverse : ExK K C_NoInverse := ⟨⟨⟨nm_NoInverse, q_NoInverse, N_NoInverse, bs_NoInverse, _, sn_NoInverse, sb_NoInverse, ab_NoInverse, co_NoInverse, dd_NoInverse, m0_NoInverse, m1_NoInverse, m2_NoInverse, m3_NoInverse, m5_NoInverse, xL_NoInverse, rfl⟩, sa_NoInverse, eC_NoInverse, tC_NoInverse, kC_NoInverse⟩, ⟨ga_NoInverse, gg_NoInverse, eC_NoInverse, hC_NoInverse⟩, ⟨ga_NoInverse, gg_NoInverse, eC_NoInverse, hC_NoInverse, oc_NoInverse, on, ot, mo_NoInverse⟩, nw_NoInverse⟩
  have R_NoInverse : Ref K C_TurnError C_NoInverse fI := ⟨EK_NoInverse, ii_NoInverse, PySem.W.exm_ref eT hT tT su_NoInverse, kv_NoInverse, kt_NoInverse⟩
  have EK_NotCoprime : ExK K C_NotCoprime := ⟨⟨⟨nm_NotCoprime, q_NotCoprime, N_NotCoprime, bs_NotCoprime, _, sn_NotCoprime, sb_NotCoprime, ab_NotCoprime, co_NotCoprime, dd_NotCoprime, m0_NotCoprime, m1_NotCoprime, m2_NotCoprime, m3_NotCoprime, m5_NotCoprime, xL_NotCoprime, rfl⟩, sa_NotCoprime, eC_NotCoprime, tC_NotCoprime, kC_NotCoprime⟩, ⟨ga_NotCoprime, gg_NotCoprime, eC_NotCoprime, hC_NotCoprime⟩, ⟨ga_NotCoprime, gg_NotCoprime, eC_NotCoprime, hC_NotCoprime, oc_NotCoprime, on, ot, mo_NotCoprime⟩, nw_NotCoprime⟩
  have R_NotCoprime : Ref K C_TurnError C_NotCoprime fI := ⟨EK_NotCoprime, ii_NotCoprime, PySem.W.exm_ref eT hT tT su_NotCoprime, kv_NotCoprime, kt_NotCoprime⟩
  have EK_BadGround : ExK K C_BadGround := ⟨⟨⟨nm_BadGround, q_BadGround, N_BadGround, bs_BadGround, _, sn_BadGround, sb_BadGround, ab_BadGround, co_BadGround, dd_BadGround, m0_BadGround, m1_BadGround, m2_BadGround, m3_BadGround, m5_BadGround, xL_BadGround, rfl⟩, sa_BadGround, eC_BadGround, tC_BadGround, kC_BadGround⟩, ⟨ga_BadGround, gg_BadGround, eC_BadGround, hC_BadGround⟩, ⟨ga_BadGround, gg_BadGround, eC_BadGround, hC_BadGround, oc_BadGround, on, ot, mo_BadGround⟩, nw_BadGround⟩
  have R_BadGround : Ref K C_TurnError C_BadGround fI := ⟨EK_BadGround, ii_BadGround, PySem.W.exm_ref eT hT tT su_BadGround, kv_BadGround, kt_BadGround⟩
  have EK_NoRoot : ExK K C_NoRoot := ⟨⟨⟨nm_NoRoot, q_NoRoot, N_NoRoot, bs_NoRoot, _, sn_NoRoot, sb_NoRoot, ab_NoRoot, co_NoRoot, dd_NoRoot, m0_NoRoot, m1_NoRoot, m2_NoRoot, m3_NoRoot, m5_NoRoot, xL_NoRoot, rfl⟩, sa_NoRoot, eC_NoRoot, tC_NoRoot, kC_NoRoot⟩, ⟨ga_NoRoot, gg_NoRoot, eC_NoRoot, hC_NoRoot⟩, ⟨ga_NoRoot, gg_NoRoot, eC_NoRoot, hC_NoRoot, oc_NoRoot, on, ot, mo_NoRoot⟩, nw_NoRoot⟩
  have R_NoRoot : Ref K C_TurnError C_NoRoot fI := ⟨EK_NoRoot, ii_NoRoot, PySem.W.exm_ref eT hT tT su_NoRoot, kv_NoRoot, kt_NoRoot⟩
  have EK_NoShare : ExK K C_NoShare := ⟨⟨⟨nm_NoShare, q_NoShare, N_NoShare, bs_NoShare, _, sn_NoShare, sb_NoShare, ab_NoShare, co_NoShare, dd_NoShare, m0_NoShare, m1_NoShare, m2_NoShare, m3_NoShare, m5_NoShare, xL_NoShare, rfl⟩, sa_NoShare, eC_NoShare, tC_NoShare, kC_NoShare⟩, ⟨ga_NoShare, gg_NoShare, eC_NoShare, hC_NoShare⟩, ⟨ga_NoShare, gg_NoShare, eC_NoShare, hC_NoShare, oc_NoShare, on, ot, mo_NoShare⟩, nw_NoShare⟩
  have R_NoShare : Ref K C_TurnError C_NoShare fI := ⟨EK_NoShare, ii_NoShare, PySem.W.exm_ref eT hT tT su_NoShare, kv_NoShare, kt_NoShare⟩
  have EK_BadLength : ExK K C_BadLength := ⟨⟨⟨nm_BadLength, q_BadLength, N_BadLength, bs_BadLength, _, sn_BadLength, sb_BadLength, ab_BadLength, co_BadLength, dd_BadLength, m0_BadLength, m1_BadLength, m2_BadLength, m3_BadLength, m5_BadLength, xL_BadLength, rfl⟩, sa_BadLength, eC_BadLength, tC_BadLength, kC_BadLength⟩, ⟨ga_BadLength, gg_BadLength, eC_BadLength, hC_BadLength⟩, ⟨ga_BadLength, gg_BadLength, eC_BadLength, hC_BadLength, oc_BadLength, on, ot, mo_BadLength⟩, nw_BadLength⟩
  have R_BadLength : Ref K C_TurnError C_BadLength fI := ⟨EK_BadLength, ii_BadLength, PySem.W.exm_ref eT hT tT su_BadLength, kv_BadLength, kt_BadLength⟩
  have EK_BadText : ExK K C_BadText := ⟨⟨⟨nm_BadText, q_BadText, N_BadText, bs_BadText, _, sn_BadText, sb_BadText, ab_BadText, co_BadText, dd_BadText, m0_BadText, m1_BadText, m2_BadText, m3_BadText, m5_BadText, xL_BadText, rfl⟩, sa_BadText, eC_BadText, tC_BadText, kC_BadText⟩, ⟨ga_BadText, gg_BadText, eC_BadText, hC_BadText⟩, ⟨ga_BadText, gg_BadText, eC_BadText, hC_BadText, oc_BadText, on, ot, mo_BadText⟩, nw_BadText⟩
  have R_BadText : Ref K C_TurnError C_BadText fI := ⟨EK_BadText, ii_BadText, PySem.W.exm_ref eT hT tT su_BadText, kv_BadText, kt_BadText⟩
  have EK_BadStep : ExK K C_BadStep := ⟨⟨⟨nm_BadStep, q_BadStep, N_BadStep, bs_BadStep, _, sn_BadStep, sb_BadStep, ab_BadStep, co_BadStep, dd_BadStep, m0_BadStep, m1_BadStep, m2_BadStep, m3_BadStep, m5_BadStep, xL_BadStep, rfl⟩, sa_BadStep, eC_BadStep, tC_BadStep, kC_BadStep⟩, ⟨ga_BadStep, gg_BadStep, eC_BadStep, hC_BadStep⟩, ⟨ga_BadStep, gg_BadStep, eC_BadStep, hC_BadStep, oc_BadStep, on, ot, mo_BadStep⟩, nw_BadStep⟩
  have R_BadStep : Ref K C_TurnError C_BadStep fI := ⟨EK_BadStep, ii_BadStep, PySem.W.exm_ref eT hT tT su_BadStep, kv_BadStep, kt_BadStep⟩
  have EK_NotDone : ExK K C_NotDone := ⟨⟨⟨nm_NotDone, q_NotDone, N_NotDone, bs_NotDone, _, sn_NotDone, sb_NotDone, ab_NotDone, co_NotDone, dd_NotDone, m0_NotDone, m1_NotDone, m2_NotDone, m3_NotDone, m5_NotDone, xL_NotDone, rfl⟩, sa_NotDone, eC_NotDone, tC_NotDone, kC_NotDone⟩, ⟨ga_NotDone, gg_NotDone, eC_NotDone, hC_NotDone⟩, ⟨ga_NotDone, gg_NotDone, eC_NotDone, hC_NotDone, oc_NotDone, on, ot, mo_NotDone⟩, nw_NotDone⟩
  have R_NotDone : Ref K C_TurnError C_NotDone fI := ⟨EK_NotDone, ii_NotDone, PySem.W.exm_ref eT hT tT su_NotDone, kv_NotDone, kt_NotDone⟩
  have EK_TooSmall : ExK K C_TooSmall := ⟨⟨⟨nm_TooSmall, q_TooSmall, N_TooSmall, bs_TooSmall, _, sn_TooSmall, sb_TooSmall, ab_TooSmall, co_TooSmall, dd_TooSmall, m0_TooSmall, m1_TooSmall, m2_TooSmall, m3_TooSmall, m5_TooSmall, xL_TooSmall, rfl⟩, sa_TooSmall, eC_TooSmall, tC_TooSmall, kC_TooSmall⟩, ⟨ga_TooSmall, gg_TooSmall, eC_TooSmall, hC_TooSmall⟩, ⟨ga_TooSmall, gg_TooSmall, eC_TooSmall, hC_TooSmall, oc_TooSmall, on, ot, mo_TooSmall⟩, nw_TooSmall⟩
  have R_TooSmall : Ref K C_TurnError C_TooSmall fI := ⟨EK_TooSmall, ii_TooSmall, PySem.W.exm_ref eT hT tT su_TooSmall, kv_TooSmall, kt_TooSmall⟩
  have EK_BadOrder : ExK K C_BadOrder := ⟨⟨⟨nm_BadOrder, q_BadOrder, N_BadOrder, bs_BadOrder, _, sn_BadOrder, sb_BadOrder, ab_BadOrder, co_BadOrder, dd_BadOrder, m0_BadOrder, m1_BadOrder, m2_BadOrder, m3_BadOrder, m5_BadOrder, xL_BadOrder, rfl⟩, sa_BadOrder, eC_BadOrder, tC_BadOrder, kC_BadOrder⟩, ⟨ga_BadOrder, gg_BadOrder, eC_BadOrder, hC_BadOrder⟩, ⟨ga_BadOrder, gg_BadOrder, eC_BadOrder, hC_BadOrder, oc_BadOrder, on, ot, mo_BadOrder⟩, nw_BadOrder⟩
  have R_BadOrder : Ref K C_TurnError C_BadOrder fI := ⟨EK_BadOrder, ii_BadOrder, PySem.W.exm_ref eT hT tT su_BadOrder, kv_BadOrder, kt_BadOrder⟩
  have EK_NotEven : ExK K C_NotEven := ⟨⟨⟨nm_NotEven, q_NotEven, N_NotEven, bs_NotEven, _, sn_NotEven, sb_NotEven, ab_NotEven, co_NotEven, dd_NotEven, m0_NotEven, m1_NotEven, m2_NotEven, m3_NotEven, m5_NotEven, xL_NotEven, rfl⟩, sa_NotEven, eC_NotEven, tC_NotEven, kC_NotEven⟩, ⟨ga_NotEven, gg_NotEven, eC_NotEven, hC_NotEven⟩, ⟨ga_NotEven, gg_NotEven, eC_NotEven, hC_NotEven, oc_NotEven, on, ot, mo_NotEven⟩, nw_NotEven⟩
  have R_NotEven : Ref K C_TurnError C_NotEven fI := ⟨EK_NotEven, ii_NotEven, PySem.W.exm_ref eT hT tT su_NotEven, kv_NotEven, kt_NotEven⟩
  have EK_NotKept : ExK K C_NotKept := ⟨⟨⟨nm_NotKept, q_NotKept, N_NotKept, bs_NotKept, _, sn_NotKept, sb_NotKept, ab_NotKept, co_NotKept, dd_NotKept, m0_NotKept, m1_NotKept, m2_NotKept, m3_NotKept, m5_NotKept, xL_NotKept, rfl⟩, sa_NotKept, eC_NotKept, tC_NotKept, kC_NotKept⟩, ⟨ga_NotKept, gg_NotKept, eC_NotKept, hC_NotKept⟩, ⟨ga_NotKept, gg_NotKept, eC_NotKept, hC_NotKept, oc_NotKept, on, ot, mo_NotKept⟩, nw_NotKept⟩
  have R_NotKept : Ref K C_TurnError C_NotKept fI := ⟨EK_NotKept, ii_NotKept, PySem.W.exm_ref eT hT tT su_NotKept, kv_NotKept, kt_NotKept⟩
  have EK_BadDeed : ExK K C_BadDeed := ⟨⟨⟨nm_BadDeed, q_BadDeed, N_BadDeed, bs_BadDeed, _, sn_BadDeed, sb_BadDeed, ab_BadDeed, co_BadDeed, dd_BadDeed, m0_BadDeed, m1_BadDeed, m2_BadDeed, m3_BadDeed, m5_BadDeed, xL_BadDeed, rfl⟩, sa_BadDeed, eC_BadDeed, tC_BadDeed, kC_BadDeed⟩, ⟨ga_BadDeed, gg_BadDeed, eC_BadDeed, hC_BadDeed⟩, ⟨ga_BadDeed, gg_BadDeed, eC_BadDeed, hC_BadDeed, oc_BadDeed, on, ot, mo_BadDeed⟩, nw_BadDeed⟩
  have R_BadDeed : Ref K C_TurnError C_BadDeed fI := ⟨EK_BadDeed, ii_BadDeed, PySem.W.exm_ref eT hT tT su_BadDeed, kv_BadDeed, kt_BadDeed⟩
  have EK_BadLine : ExK K C_BadLine := ⟨⟨⟨nm_BadLine, q_BadLine, N_BadLine, bs_BadLine, _, sn_BadLine, sb_BadLine, ab_BadLine, co_BadLine, dd_BadLine, m0_BadLine, m1_BadLine, m2_BadLine, m3_BadLine, m5_BadLine, xL_BadLine, rfl⟩, sa_BadLine, eC_BadLine, tC_BadLine, kC_BadLine⟩, ⟨ga_BadLine, gg_BadLine, eC_BadLine, hC_BadLine⟩, ⟨ga_BadLine, gg_BadLine, eC_BadLine, hC_BadLine, oc_BadLine, on, ot, mo_BadLine⟩, nw_BadLine⟩
  have R_BadLine : Ref K C_TurnError C_BadLine fI := ⟨EK_BadLine, ii_BadLine, PySem.W.exm_ref eT hT tT su_BadLine, kv_BadLine, kt_BadLine⟩
  have M_SHORTS := PySem.W.mg_of X G g_SHORTS
  have Q_SHORTS : ∀ H : Hp, SqT K H a_SHORTS (([1, 2, 3, 4] : List Int).map V.int) := fun H => .inr ⟨_, _, _, l_SHORTS, rfl, rfl, (by show 4 ≤ sizeLine; rw [sizeLine_eq]; decide), (.cons ⟨_, rfl⟩ (.cons ⟨_, rfl⟩ (.cons ⟨_, rfl⟩ (.cons ⟨_, rfl⟩ .nil))))⟩
  have M_TABLE := PySem.W.mg_of X G g_TABLE
  have Q_TABLE : ∀ H : Hp, SqT K H a_TABLE (([1, 3] : List Int).map V.int) := fun H => .inr ⟨_, _, _, l_TABLE, rfl, rfl, (by show 2 ≤ sizeLine; rw [sizeLine_eq]; decide), (.cons ⟨_, rfl⟩ (.cons ⟨_, rfl⟩ .nil))⟩
  have M_PRIMES := PySem.W.mg_of X G g_PRIMES
  have Q_PRIMES : ∀ H : Hp, SqT K H a_PRIMES (([97, 193, 241, 257, 337, 421, 577, 2521] : List Int).map V.int) := fun H => .inr ⟨_, _, _, l_PRIMES, rfl, rfl, (by show 8 ≤ sizeLine; rw [sizeLine_eq]; decide), (.cons ⟨_, rfl⟩ (.cons ⟨_, rfl⟩ (.cons ⟨_, rfl⟩ (.cons ⟨_, rfl⟩ (.cons ⟨_, rfl⟩ (.cons ⟨_, rfl⟩ (.cons ⟨_, rfl⟩ (.cons ⟨_, rfl⟩ .nil))))))))⟩
  have M_BOOK := PySem.W.mg_of X G g_BOOK
  have M_TurnError := PySem.W.mg_of X G g_TurnError
  have M_NoInverse := PySem.W.mg_of X G g_NoInverse
  have M_NotCoprime := PySem.W.mg_of X G g_NotCoprime
  have M_BadGround := PySem.W.mg_of X G g_BadGround
  have M_NoRoot := PySem.W.mg_of X G g_NoRoot
  have M_NoShare := PySem.W.mg_of X G g_NoShare
  have M_BadLength := PySem.W.mg_of X G g_BadLength
  have M_BadText := PySem.W.mg_of X G g_BadText
  have M_BadStep := PySem.W.mg_of X G g_BadStep
  have M_NotDone := PySem.W.mg_of X G g_NotDone
  have M_TooSmall := PySem.W.mg_of X G g_TooSmall
  have M_BadOrder := PySem.W.mg_of X G g_BadOrder
  have M_NotEven := PySem.W.mg_of X G g_NotEven
  have M_NotKept := PySem.W.mg_of X G g_NotKept
  have M_BadDeed := PySem.W.mg_of X G g_BadDeed
  have M_BadLine := PySem.W.mg_of X G g_BadLine
  refine ⟨_, fun s v => .of_eq rfl, fun base _ _ => ok_law (P := l.prog) (w := w) (base := base) F8 T ⟨⟨_, _, F0, b0, PySem.W.mg_of X G a0⟩, ⟨_, _, F1, b1, PySem.W.mg_of X G a1⟩, ⟨_, _, F2, b2, PySem.W.mg_of X G a2⟩, ⟨_, _, F3, b3, PySem.W.mg_of X G a3⟩, ⟨_, _, F4, b4, PySem.W.mg_of X G a4⟩, ⟨_, _, F5, b5, PySem.W.mg_of X G a5⟩, ⟨_, _, F6, b6, PySem.W.mg_of X G a6⟩, ⟨_, _, F7, b7, PySem.W.mg_of X G a7⟩⟩ ⟨⟨F_I, b_I, tI, R_TurnError, M_TurnError, R_NoInverse, M_NoInverse, R_NotCoprime, M_NotCoprime, R_BadGround, M_BadGround, R_NoRoot, M_NoRoot, R_NoShare, M_NoShare, R_BadLength, M_BadLength, R_BadText, M_BadText, R_BadStep, M_BadStep, R_NotDone, M_NotDone, R_TooSmall, M_TooSmall, R_BadOrder, M_BadOrder, R_NotEven, M_NotEven, R_NotKept, M_NotKept, R_BadDeed, M_BadDeed, R_BadLine, M_BadLine, fkm, fkt⟩, M_SHORTS, Q_SHORTS, M_TABLE, Q_TABLE, M_PRIMES, Q_PRIMES, ⟨_, M_BOOK⟩⟩⟩
end My
open PySem PySem.W PyProof.Rows
set_option maxRecDepth 100000 in
set_option maxHeartbeats 0 in
theorem PySem.Challenge.cw_turnsums_k01_words_and_refusals_holds : PySem.Challenge.rw_turnsums_k01_words_and_refusals.Holds := by
  w_on; o_law; k_head; (case hw => w_witness2)
  k_fill
  refine L2.walk_of (l := PySem.Challenge.rw_turnsums_k01_words_and_refusals) (n := 63) (k := 6) (x := "_law_script") (CX := fun _ => L2.CX0) (sp := fun w => My.spLaw _) rfl (by decide) rfl ⟨rfl, by decide, by decide⟩ (fun w h Y => PySem.W.kIn_of Y) ?F (fun _ _ a ns hl _ hS => ⟨a, ns, rfl, hS, hl, fun _ => rfl⟩) (fun _ _ _ _ _ h => h)
  case F =>
    intro w mg fa h KX G hmg
    refine' My.all_mk KX G hmg ?g_TurnError ?g_NoInverse ?g_NotCoprime ?g_BadGround ?g_NoRoot ?g_NoShare ?g_BadLength ?g_BadText ?g_BadStep ?g_NotDone ?g_TooSmall ?g_BadOrder ?g_NotEven ?g_NotKept ?g_BadDeed ?g_BadLine ?on ?ot ?eT ?hT ?tT ?xL_TurnError ?sa_TurnError ?ga_TurnError ?gg_TurnError ?nw_TurnError ?ii_TurnError ?oc_TurnError ?kC_TurnError ?eC_TurnError ?tC_TurnError ?hC_TurnError ?mo_TurnError ?su_TurnError ?kv_TurnError ?kt_TurnError ?xL_NoInverse ?sa_NoInverse ?ga_NoInverse ?gg_NoInverse ?nw_NoInverse ?ii_NoInverse ?oc_NoInverse ?kC_NoInverse ?eC_NoInverse ?tC_NoInverse ?hC_NoInverse ?mo_NoInverse ?su_NoInverse ?kv_NoInverse ?kt_NoInverse ?xL_NotCoprime ?sa_NotCoprime ?ga_NotCoprime ?gg_NotCoprime ?nw_NotCoprime ?ii_NotCoprime ?oc_NotCoprime ?kC_NotCoprime ?eC_NotCoprime ?tC_NotCoprime ?hC_NotCoprime ?mo_NotCoprime ?su_NotCoprime ?kv_NotCoprime ?kt_NotCoprime ?xL_BadGround ?sa_BadGround ?ga_BadGround ?gg_BadGround ?nw_BadGround ?ii_BadGround ?oc_BadGround ?kC_BadGround ?eC_BadGround ?tC_BadGround ?hC_BadGround ?mo_BadGround ?su_BadGround ?kv_BadGround ?kt_BadGround ?xL_NoRoot ?sa_NoRoot ?ga_NoRoot ?gg_NoRoot ?nw_NoRoot ?ii_NoRoot ?oc_NoRoot ?kC_NoRoot ?eC_NoRoot ?tC_NoRoot ?hC_NoRoot ?mo_NoRoot ?su_NoRoot ?kv_NoRoot ?kt_NoRoot ?xL_NoShare ?sa_NoShare ?ga_NoShare ?gg_NoShare ?nw_NoShare ?ii_NoShare ?oc_NoShare ?kC_NoShare ?eC_NoShare ?tC_NoShare ?hC_NoShare ?mo_NoShare ?su_NoShare ?kv_NoShare ?kt_NoShare ?xL_BadLength ?sa_BadLength ?ga_BadLength ?gg_BadLength ?nw_BadLength ?ii_BadLength ?oc_BadLength ?kC_BadLength ?eC_BadLength ?tC_BadLength ?hC_BadLength ?mo_BadLength ?su_BadLength ?kv_BadLength ?kt_BadLength ?xL_BadText ?sa_BadText ?ga_BadText ?gg_BadText ?nw_BadText ?ii_BadText ?oc_BadText ?kC_BadText ?eC_BadText ?tC_BadText ?hC_BadText ?mo_BadText ?su_BadText ?kv_BadText ?kt_BadText ?xL_BadStep ?sa_BadStep ?ga_BadStep ?gg_BadStep ?nw_BadStep ?ii_BadStep ?oc_BadStep ?kC_BadStep ?eC_BadStep ?tC_BadStep ?hC_BadStep ?mo_BadStep ?su_BadStep ?kv_BadStep ?kt_BadStep ?xL_NotDone ?sa_NotDone ?ga_NotDone ?gg_NotDone ?nw_NotDone ?ii_NotDone ?oc_NotDone ?kC_NotDone ?eC_NotDone ?tC_NotDone ?hC_NotDone ?mo_NotDone ?su_NotDone ?kv_NotDone ?kt_NotDone ?xL_TooSmall ?sa_TooSmall ?ga_TooSmall ?gg_TooSmall ?nw_TooSmall ?ii_TooSmall ?oc_TooSmall ?kC_TooSmall ?eC_TooSmall ?tC_TooSmall ?hC_TooSmall ?mo_TooSmall ?su_TooSmall ?kv_TooSmall ?kt_TooSmall ?xL_BadOrder ?sa_BadOrder ?ga_BadOrder ?gg_BadOrder ?nw_BadOrder ?ii_BadOrder ?oc_BadOrder ?kC_BadOrder ?eC_BadOrder ?tC_BadOrder ?hC_BadOrder ?mo_BadOrder ?su_BadOrder ?kv_BadOrder ?kt_BadOrder ?xL_NotEven ?sa_NotEven ?ga_NotEven ?gg_NotEven ?nw_NotEven ?ii_NotEven ?oc_NotEven ?kC_NotEven ?eC_NotEven ?tC_NotEven ?hC_NotEven ?mo_NotEven ?su_NotEven ?kv_NotEven ?kt_NotEven ?xL_NotKept ?sa_NotKept ?ga_NotKept ?gg_NotKept ?nw_NotKept ?ii_NotKept ?oc_NotKept ?kC_NotKept ?eC_NotKept ?tC_NotKept ?hC_NotKept ?mo_NotKept ?su_NotKept ?kv_NotKept ?kt_NotKept ?xL_BadDeed ?sa_BadDeed ?ga_BadDeed ?gg_BadDeed ?nw_BadDeed ?ii_BadDeed ?oc_BadDeed ?kC_BadDeed ?eC_BadDeed ?tC_BadDeed ?hC_BadDeed ?mo_BadDeed ?su_BadDeed ?kv_BadDeed ?kt_BadDeed ?xL_BadLine ?sa_BadLine ?ga_BadLine ?gg_BadLine ?nw_BadLine ?ii_BadLine ?oc_BadLine ?kC_BadLine ?eC_BadLine ?tC_BadLine ?hC_BadLine ?mo_BadLine ?su_BadLine ?kv_BadLine ?kt_BadLine ?lI ?cI ?kI ?tI ?g_SHORTS ?l_SHORTS ?g_TABLE ?l_TABLE ?g_PRIMES ?l_PRIMES ?g_BOOK ?fkm ?fkt ?a0 ?l0 ?c0 ?k0 ?a1 ?l1 ?c1 ?k1 ?a2 ?l2 ?c2 ?k2 ?a3 ?l3 ?c3 ?k3 ?a4 ?l4 ?c4 ?k4 ?a5 ?l5 ?c5 ?k5 ?a6 ?l6 ?c6 ?k6 ?a7 ?l7 ?c7 ?k7 ?a8 ?l8 ?c8 ?k8 ?z0 ?z1 ?z2 ?z3 ?z4 ?z5 ?z6 ?z7 ?z8 ?z9 ?z10 ?z11
    (case g_TurnError => first | k_is | rfl)
    (case g_NoInverse => first | k_is | rfl)
    (case g_NotCoprime => first | k_is | rfl)
    (case g_BadGround => first | k_is | rfl)
    (case g_NoRoot => first | k_is | rfl)
    (case g_NoShare => first | k_is | rfl)
    (case g_BadLength => first | k_is | rfl)
    (case g_BadText => first | k_is | rfl)
    (case g_BadStep => first | k_is | rfl)
    (case g_NotDone => first | k_is | rfl)
    (case g_TooSmall => first | k_is | rfl)
    (case g_BadOrder => first | k_is | rfl)
    (case g_NotEven => first | k_is | rfl)
    (case g_NotKept => first | k_is | rfl)
    (case g_BadDeed => first | k_is | rfl)
    (case g_BadLine => first | k_is | rfl)
    (case on => first | k_is | rfl)
    (case ot => first | k_is | rfl)
    (case eT => first | k_is | rfl)
    (case hT => first | k_is | rfl)
    (case tT => first | k_is | rfl)
    (case xL_TurnError => first | k_is | rfl)
    (case sa_TurnError => first | k_is | rfl)
    (case ga_TurnError => first | k_is | rfl)
    (case gg_TurnError => first | k_is | rfl)
    (case nw_TurnError => first | k_is | rfl)
    (case ii_TurnError => first | k_is | rfl)
    (case oc_TurnError => first | k_is | rfl)
    (case kC_TurnError => first | k_is | rfl)
    (case eC_TurnError => first | k_is | rfl)
    (case tC_TurnError => first | k_is | rfl)
    (case hC_TurnError => first | k_is | rfl)
    (case mo_TurnError => first | k_is | rfl)
    (case su_TurnError => first | k_is | rfl)
    (case kv_TurnError => first | k_is | rfl)
    (case kt_TurnError => first | k_is | rfl)
    (case xL_NoInverse => first | k_is | rfl)
    (case sa_NoInverse => first | k_is | rfl)
    (case ga_NoInverse => first | k_is | rfl)
    (case gg_NoInverse => first | k_is | rfl)
    (case nw_NoInverse => first | k_is | rfl)
    (case ii_NoInverse => first | k_is | rfl)
    (case oc_NoInverse => first | k_is | rfl)
    (case kC_NoInverse => first | k_is | rfl)
    (case eC_NoInverse => first | k_is | rfl)
    (case tC_NoInverse => first | k_is | rfl)
    (case hC_NoInverse => first | k_is | rfl)
    (case mo_NoInverse => first | k_is | rfl)
    (case su_NoInverse => first | k_is | rfl)
    (case kv_NoInverse => first | k_is | rfl)
    (case kt_NoInverse => first | k_is | rfl)
    (case xL_NotCoprime => first | k_is | rfl)
    (case sa_NotCoprime => first | k_is | rfl)
    (case ga_NotCoprime => first | k_is | rfl)
    (case gg_NotCoprime => first | k_is | rfl)
    (case nw_NotCoprime => first | k_is | rfl)
    (case ii_NotCoprime => first | k_is | rfl)
    (case oc_NotCoprime => first | k_is | rfl)
    (case kC_NotCoprime => first | k_is | rfl)
    (case eC_NotCoprime => first | k_is | rfl)
    (case tC_NotCoprime => first | k_is | rfl)
    (case hC_NotCoprime => first | k_is | rfl)
    (case mo_NotCoprime => first | k_is | rfl)
    (case su_NotCoprime => first | k_is | rfl)
    (case kv_NotCoprime => first | k_is | rfl)
    (case kt_NotCoprime => first | k_is | rfl)
    (case xL_BadGround => first | k_is | rfl)
    (case sa_BadGround => first | k_is | rfl)
    (case ga_BadGround => first | k_is | rfl)
    (case gg_BadGround => first | k_is | rfl)
    (case nw_BadGround => first | k_is | rfl)
    (case ii_BadGround => first | k_is | rfl)
    (case oc_BadGround => first | k_is | rfl)
    (case kC_BadGround => first | k_is | rfl)
    (case eC_BadGround => first | k_is | rfl)
    (case tC_BadGround => first | k_is | rfl)
    (case hC_BadGround => first | k_is | rfl)
    (case mo_BadGround => first | k_is | rfl)
    (case su_BadGround => first | k_is | rfl)
    (case kv_BadGround => first | k_is | rfl)
    (case kt_BadGround => first | k_is | rfl)
    (case xL_NoRoot => first | k_is | rfl)
    (case sa_NoRoot => first | k_is | rfl)
    (case ga_NoRoot => first | k_is | rfl)
    (case gg_NoRoot => first | k_is | rfl)
    (case nw_NoRoot => first | k_is | rfl)
    (case ii_NoRoot => first | k_is | rfl)
    (case oc_NoRoot => first | k_is | rfl)
    (case kC_NoRoot => first | k_is | rfl)
    (case eC_NoRoot => first | k_is | rfl)
    (case tC_NoRoot => first | k_is | rfl)
    (case hC_NoRoot => first | k_is | rfl)
    (case mo_NoRoot => first | k_is | rfl)
    (case su_NoRoot => first | k_is | rfl)
    (case kv_NoRoot => first | k_is | rfl)
    (case kt_NoRoot => first | k_is | rfl)
    (case xL_NoShare => first | k_is | rfl)
    (case sa_NoShare => first | k_is | rfl)
    (case ga_NoShare => first | k_is | rfl)
    (case gg_NoShare => first | k_is | rfl)
    (case nw_NoShare => first | k_is | rfl)
    (case ii_NoShare => first | k_is | rfl)
    (case oc_NoShare => first | k_is | rfl)
    (case kC_NoShare => first | k_is | rfl)
    (case eC_NoShare => first | k_is | rfl)
    (case tC_NoShare => first | k_is | rfl)
    (case hC_NoShare => first | k_is | rfl)
    (case mo_NoShare => first | k_is | rfl)
    (case su_NoShare => first | k_is | rfl)
    (case kv_NoShare => first | k_is | rfl)
    (case kt_NoShare => first | k_is | rfl)
    (case xL_BadLength => first | k_is | rfl)
    (case sa_BadLength => first | k_is | rfl)
    (case ga_BadLength => first | k_is | rfl)
    (case gg_BadLength => first | k_is | rfl)
    (case nw_BadLength => first | k_is | rfl)
    (case ii_BadLength => first | k_is | rfl)
    (case oc_BadLength => first | k_is | rfl)
    (case kC_BadLength => first | k_is | rfl)
    (case eC_BadLength => first | k_is | rfl)
    (case tC_BadLength => first | k_is | rfl)
    (case hC_BadLength => first | k_is | rfl)
    (case mo_BadLength => first | k_is | rfl)
    (case su_BadLength => first | k_is | rfl)
    (case kv_BadLength => first | k_is | rfl)
    (case kt_BadLength => first | k_is | rfl)
    (case xL_BadText => first | k_is | rfl)
    (case sa_BadText => first | k_is | rfl)
    (case ga_BadText => first | k_is | rfl)
    (case gg_BadText => first | k_is | rfl)
    (case nw_BadText => first | k_is | rfl)
    (case ii_BadText => first | k_is | rfl)
    (case oc_BadText => first | k_is | rfl)
    (case kC_BadText => first | k_is | rfl)
    (case eC_BadText => first | k_is | rfl)
    (case tC_BadText => first | k_is | rfl)
    (case hC_BadText => first | k_is | rfl)
    (case mo_BadText => first | k_is | rfl)
    (case su_BadText => first | k_is | rfl)
    (case kv_BadText => first | k_is | rfl)
    (case kt_BadText => first | k_is | rfl)
    (case xL_BadStep => first | k_is | rfl)
    (case sa_BadStep => first | k_is | rfl)
    (case ga_BadStep => first | k_is | rfl)
    (case gg_BadStep => first | k_is | rfl)
    (case nw_BadStep => first | k_is | rfl)
    (case ii_BadStep => first | k_is | rfl)
    (case oc_BadStep => first | k_is | rfl)
    (case kC_BadStep => first | k_is | rfl)
    (case eC_BadStep => first | k_is | rfl)
    (case tC_BadStep => first | k_is | rfl)
    (case hC_BadStep => first | k_is | rfl)
    (case mo_BadStep => first | k_is | rfl)
    (case su_BadStep => first | k_is | rfl)
    (case kv_BadStep => first | k_is | rfl)
    (case kt_BadStep => first | k_is | rfl)
    (case xL_NotDone => first | k_is | rfl)
    (case sa_NotDone => first | k_is | rfl)
    (case ga_NotDone => first | k_is | rfl)
    (case gg_NotDone => first | k_is | rfl)
    (case nw_NotDone => first | k_is | rfl)
    (case ii_NotDone => first | k_is | rfl)
    (case oc_NotDone => first | k_is | rfl)
    (case kC_NotDone => first | k_is | rfl)
    (case eC_NotDone => first | k_is | rfl)
    (case tC_NotDone => first | k_is | rfl)
    (case hC_NotDone => first | k_is | rfl)
    (case mo_NotDone => first | k_is | rfl)
    (case su_NotDone => first | k_is | rfl)
    (case kv_NotDone => first | k_is | rfl)
    (case kt_NotDone => first | k_is | rfl)
    (case xL_TooSmall => first | k_is | rfl)
    (case sa_TooSmall => first | k_is | rfl)
    (case ga_TooSmall => first | k_is | rfl)
    (case gg_TooSmall => first | k_is | rfl)
    (case nw_TooSmall => first | k_is | rfl)
    (case ii_TooSmall => first | k_is | rfl)
    (case oc_TooSmall => first | k_is | rfl)
    (case kC_TooSmall => first | k_is | rfl)
    (case eC_TooSmall => first | k_is | rfl)
    (case tC_TooSmall => first | k_is | rfl)
    (case hC_TooSmall => first | k_is | rfl)
    (case mo_TooSmall => first | k_is | rfl)
    (case su_TooSmall => first | k_is | rfl)
    (case kv_TooSmall => first | k_is | rfl)
    (case kt_TooSmall => first | k_is | rfl)
    (case xL_BadOrder => first | k_is | rfl)
    (case sa_BadOrder => first | k_is | rfl)
    (case ga_BadOrder => first | k_is | rfl)
    (case gg_BadOrder => first | k_is | rfl)
    (case nw_BadOrder => first | k_is | rfl)
    (case ii_BadOrder => first | k_is | rfl)
    (case oc_BadOrder => first | k_is | rfl)
    (case kC_BadOrder => first | k_is | rfl)
    (case eC_BadOrder => first | k_is | rfl)
    (case tC_BadOrder => first | k_is | rfl)
    (case hC_BadOrder => first | k_is | rfl)
    (case mo_BadOrder => first | k_is | rfl)
    (case su_BadOrder => first | k_is | rfl)
    (case kv_BadOrder => first | k_is | rfl)
    (case kt_BadOrder => first | k_is | rfl)
    (case xL_NotEven => first | k_is | rfl)
    (case sa_NotEven => first | k_is | rfl)
    (case ga_NotEven => first | k_is | rfl)
    (case gg_NotEven => first | k_is | rfl)
    (case nw_NotEven => first | k_is | rfl)
    (case ii_NotEven => first | k_is | rfl)
    (case oc_NotEven => first | k_is | rfl)
    (case kC_NotEven => first | k_is | rfl)
    (case eC_NotEven => first | k_is | rfl)
    (case tC_NotEven => first | k_is | rfl)
    (case hC_NotEven => first | k_is | rfl)
    (case mo_NotEven => first | k_is | rfl)
    (case su_NotEven => first | k_is | rfl)
    (case kv_NotEven => first | k_is | rfl)
    (case kt_NotEven => first | k_is | rfl)
    (case xL_NotKept => first | k_is | rfl)
    (case sa_NotKept => first | k_is | rfl)
    (case ga_NotKept => first | k_is | rfl)
    (case gg_NotKept => first | k_is | rfl)
    (case nw_NotKept => first | k_is | rfl)
    (case ii_NotKept => first | k_is | rfl)
    (case oc_NotKept => first | k_is | rfl)
    (case kC_NotKept => first | k_is | rfl)
    (case eC_NotKept => first | k_is | rfl)
    (case tC_NotKept => first | k_is | rfl)
    (case hC_NotKept => first | k_is | rfl)
    (case mo_NotKept => first | k_is | rfl)
    (case su_NotKept => first | k_is | rfl)
    (case kv_NotKept => first | k_is | rfl)
    (case kt_NotKept => first | k_is | rfl)
    (case xL_BadDeed => first | k_is | rfl)
    (case sa_BadDeed => first | k_is | rfl)
    (case ga_BadDeed => first | k_is | rfl)
    (case gg_BadDeed => first | k_is | rfl)
    (case nw_BadDeed => first | k_is | rfl)
    (case ii_BadDeed => first | k_is | rfl)
    (case oc_BadDeed => first | k_is | rfl)
    (case kC_BadDeed => first | k_is | rfl)
    (case eC_BadDeed => first | k_is | rfl)
    (case tC_BadDeed => first | k_is | rfl)
    (case hC_BadDeed => first | k_is | rfl)
    (case mo_BadDeed => first | k_is | rfl)
    (case su_BadDeed => first | k_is | rfl)
    (case kv_BadDeed => first | k_is | rfl)
    (case kt_BadDeed => first | k_is | rfl)
    (case xL_BadLine => first | k_is | rfl)
    (case sa_BadLine => first | k_is | rfl)
    (case ga_BadLine => first | k_is | rfl)
    (case gg_BadLine => first | k_is | rfl)
    (case nw_BadLine => first | k_is | rfl)
    (case ii_BadLine => first | k_is | rfl)
    (case oc_BadLine => first | k_is | rfl)
    (case kC_BadLine => first | k_is | rfl)
    (case eC_BadLine => first | k_is | rfl)
    (case tC_BadLine => first | k_is | rfl)
    (case hC_BadLine => first | k_is | rfl)
    (case mo_BadLine => first | k_is | rfl)
    (case su_BadLine => first | k_is | rfl)
    (case kv_BadLine => first | k_is | rfl)
    (case kt_BadLine => first | k_is | rfl)
    (case lI => first | k_is | rfl)
    (case cI => first | k_is | rfl)
    (case kI => first | k_is | rfl)
    (case tI => first | k_is | rfl)
    (case g_SHORTS => first | k_is | rfl)
    (case l_SHORTS => first | k_is | rfl)
    (case g_TABLE => first | k_is | rfl)
    (case l_TABLE => first | k_is | rfl)
    (case g_PRIMES => first | k_is | rfl)
    (case l_PRIMES => first | k_is | rfl)
    (case g_BOOK => first | k_is | rfl)
    (case fkm => first | k_is | rfl)
    (case fkt => first | k_is | rfl)
    (case a0 => k_is)
    (case l0 => k_is)
    (case c0 => k_is)
    (case k0 => k_is)
    (case a1 => k_is)
    (case l1 => k_is)
    (case c1 => k_is)
    (case k1 => k_is)
    (case a2 => k_is)
    (case l2 => k_is)
    (case c2 => k_is)
    (case k2 => k_is)
    (case a3 => k_is)
    (case l3 => k_is)
    (case c3 => k_is)
    (case k3 => k_is)
    (case a4 => k_is)
    (case l4 => k_is)
    (case c4 => k_is)
    (case k4 => k_is)
    (case a5 => k_is)
    (case l5 => k_is)
    (case c5 => k_is)
    (case k5 => k_is)
    (case a6 => k_is)
    (case l6 => k_is)
    (case c6 => k_is)
    (case k6 => k_is)
    (case a7 => k_is)
    (case l7 => k_is)
    (case c7 => k_is)
    (case k7 => k_is)
    (case a8 => k_is)
    (case l8 => k_is)
    (case c8 => k_is)
    (case k8 => k_is)
    (case z0 => k_is)
    (case z1 => k_is)
    (case z2 => k_is)
    (case z3 => k_is)
    (case z4 => k_is)
    (case z5 => k_is)
    (case z6 => k_is)
    (case z7 => k_is)
    (case z8 => k_is)
    (case z9 => k_is)
    (case z10 => k_is)
    (case z11 => k_is)

