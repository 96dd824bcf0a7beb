import PyProof.Rows.All
import Wide.All
import OpenK.AllK
import Wide.FinOn
import HandS.ForMost
import HandS.IsInst
import HandS.Style
import HandS.Wide
import HandS.WideMore
import HandS.Zip
import HandS.Flow
import HandS.SetFor
import HandS.Strs
import HandS.SortInts
import HandS.ExcInit
import HandS.ExcField
import HandS.ExcIs
import HandS.ExcValue
import HandS.WordsExc
import HandS.NoneIn
import HandS.Conv
import HandS.TupMul
import HandS.TupAny
import HandS.Dict
import HandS.Deep
import KE.KExcIs
import KE.GoesMore
import PyProof.Draws
import PySem.Challenge.RW_turnsums_k70_even_rows_and_halves
set_option Elab.async false
set_option linter.all false
set_option maxRecDepth 100000
set_option maxHeartbeats 4000000
namespace My
open PySem L2
def top (i : Nat) : Stmt := PySem.Challenge.pw_turnsums_k70_even_rows_and_halves.main.body.getD i (.Pass ⟨0, 0, 0, 0⟩)
/-- a def of the text: where it stands, how it is called -/
structure Df (K : PySem.W.Frag) (mg : Str → Option Value) (x : Str) (st : Stmt) (ps : List Str) (f : Addr) (fd : FuncData) : Prop where
  F : Fun K x x st f fd
  b : Binds K fd ps []
  g : mg x = some (.ref f)
/-! heaps: all but the box stays -/
theorem same_upd {H H' : Hp} {p : Addr} {o : HO} (h : Same H H') (n : H' p = none) : Same H (upd H' p o) := fun b x e => by
  rw [upd_ne (ne_of_none (h b x e) n)]
  exact h b x e
theorem same_new {H : Hp} {p : Addr} {o : HO} (n : H p = none) : Same H (upd H p o) := same_upd (Same.refl H) n
theorem same_mut {H H' : Hp} {p : Addr} {o : HO} (h : Same H H') (n : H p = none) : Same H (upd H' p o) := fun b x e => by
  rw [upd_ne (ne_of_none e n)]
  exact h b x e
theorem same_t {K : PySem.W.Frag} {H H' : Hp} {a : Addr} {xs : List V} (e : Same H H') (h : SqT K H a xs) : SqT K H' a xs := by
  rcases h with (h | ⟨o, h⟩) | h
  · exact .inl (.inl (e _ _ h))
  · exact .inl (.inr ⟨o, e _ _ h⟩)
  · exact .inr h
def Keep (b : Addr) (H H' : Hp) : Prop := ∀ a o, a ≠ b → H a = some o → H' a = some o
theorem Keep.refl (b : Addr) (H : Hp) : Keep b H H := fun _ _ _ h => h
theorem Keep.trans {b : Addr} {H H1 H2 : Hp} (a : Keep b H H1) (c : Keep b H1 H2) : Keep b H H2 := fun x o n h => c x o n (a x o n h)
theorem keepS {b : Addr} {H H' : Hp} (h : Same H H') : Keep b H H' := fun x o _ e => h x o e
theorem keep_same {b : Addr} {H0 H H' : Hp} (a : Same H0 H) (n : H0 b = none) (k : Keep b H H') : Same H0 H' := fun x o e => k x o (ne_of_none e n) (a x o e)
theorem keep_upd {b : Addr} {H H' : Hp} {o : HO} (h : Keep b H H') : Keep b H (upd H' b o) := fun a u n e => by
  rw [upd_ne n]
  exact h a u n e
theorem keep_new {b p : Addr} {H H' : Hp} {o : HO} (h : Keep b H H') (n : H' p = none) : Keep b H (upd H' p o) := fun a u na e => by
  rw [upd_ne (ne_of_none (h a u na e) n)]
  exact h a u na e
theorem Keep.seq {K : PySem.W.Frag} {b a : Addr} {H H' : Hp} {xs : List V} (e : Keep b H H') (n : a ≠ b) (h : SqL K H a xs) : SqL K H' a xs := by
  rcases h with (h | ⟨o, h⟩) | h
  · exact .inl (.inl (e _ _ n h))
  · exact .inl (.inr ⟨o, e _ _ n h⟩)
  · exact .inr h
def BoxAt (H : Hp) (b : Addr) (n : Int) : Prop := ∃ x y z : Int, H b = some (.lst [.int x, .int y, .int z]) ∧ 0 ≤ x ∧ 0 ≤ y ∧ y ≤ 4294967296 ∧ 0 ≤ z ∧ z ≤ n
theorem BoxAt.mono {H : Hp} {b : Addr} {n m : Int} (h : BoxAt H b n) (e : n ≤ m) : BoxAt H b m := by
  obtain ⟨x, y, z, a1, a2, a3, a4, a5, a6⟩ := h
  exact ⟨x, y, z, a1, a2, a3, a4, a5, by omega⟩
theorem BoxAt.same {H H' : Hp} {b : Addr} {n : Int} (h : BoxAt H b n) (e : Same H H') : BoxAt H' b n := by
  obtain ⟨x, y, z, a1, a2⟩ := h
  exact ⟨x, y, z, e _ _ a1, a2⟩
theorem BoxAt.some {H : Hp} {b : Addr} {n : Int} (h : BoxAt H b n) : ∃ o, H b = some o := by
  obtain ⟨x, y, z, a1, a2⟩ := h
  exact ⟨_, a1⟩
theorem BoxAt.ne {H : Hp} {b p : Addr} {n : Int} (h : BoxAt H b n) (e : H p = none) : p ≠ b := by
  obtain ⟨o, h⟩ := h.some
  exact (ne_of_none h e).symm
theorem szl {n : Nat} (h : n ≤ 60000) : n ≤ sizeLine := Nat.le_trans h (by decide)
theorem szm {n : Nat} (h : n ≤ 60000) : n < sizeLine := Nat.lt_of_le_of_lt h (by decide)
theorem pw6 : (10 : Int) ^ Int.toNat 6 = 1000000 := by decide
theorem pw9 : (10 : Int) ^ Int.toNat 9 = 1000000000 := by decide
theorem newO {H H' : Hp} {p : Addr} {o : HO} (e : upd H p o = H') (hp : H p = none) : Same H H' ∧ H' p = some o := by
  subst e
  exact ⟨same_new hp, upd_same⟩
theorem mutO {H H' : Hp} {p : Addr} {o : HO} (e : upd H p o = H') : Keep p H H' ∧ H' p = some o := by
  subst e
  exact ⟨keep_upd (Keep.refl _ _), upd_same⟩
/-- a word of ours that the walk must not open -/
inductive Hold (p : Prop) : Prop
  | mk : p → Hold p
theorem Hold.un {p : Prop} (h : Hold p) : p := by
  cases h with
  | mk h => exact h
theorem holdN {W : Nat → L2.St → Hp → Prop} {m : Nat} : ∀ (σ' : L2.St) (H' : Hp), Hold (∃ m', m' < m ∧ W m' σ' H') → ∃ m', m' < m ∧ W m' σ' H' := fun _ _ h => h.un
theorem ite_dec {c A B : Prop} [Decidable c] (hc : c) (h : A) : if decide c = true then A else B := by
  rw [decide_eq_true hc]
  exact iteT h
def rLenQ (K : PySem.W.Frag) : List V → Hp → VK → Prop := fun xs H Q => ∃ p ys, xs = [.ref p] ∧ (SqL K H p ys ∨ SqT K H p ys) ∧ Q (.int ys.length) H
theorem iteTe {b : Bool} {A B : Prop} (e : b = true) (h : A) : if b = true then A else B := by
  rw [if_pos e]
  exact h
theorem iteFe {b : Bool} {A B : Prop} (e : b = false) (h : B) : if b = true then A else B := by
  rw [e]
  exact iteF h
theorem cmul_b {i : Int} {b : Bool} : CMul i (if b then 1 else 0) := by
  refine .inr ?_
  cases b <;> exact ⟨by decide, by decide⟩
theorem at_ints {ns : List Int} {k : Int} (h0 : 0 ≤ k) (h : k < (ns.length : Int)) : ∃ c, c ∈ ns ∧ atI (ns.map V.int) k = some (.int c) := by
  have hk : k.toNat < ns.length := by omega
  refine ⟨ns[k.toNat], List.getElem_mem hk, at_of (j := k.toNat) (by omega) ?_⟩
  rw [List.getElem?_map, List.getElem?_eq_getElem hk]
  rfl
theorem at_some {xs : List V} {k : Int} (h0 : 0 ≤ k) (h : k < (xs.length : Int)) : ∃ v, v ∈ xs ∧ atI xs k = some v := by
  have hk : k.toNat < xs.length := by omega
  exact ⟨xs[k.toNat], List.getElem_mem hk, at_of (j := k.toNat) (by omega) (List.getElem?_eq_getElem hk)⟩
theorem int_mem {ns : List Int} {v : V} (h : v ∈ ns.map V.int) : ∃ c, c ∈ ns ∧ v = .int c := by
  obtain ⟨c, hc, e⟩ := List.mem_map.mp h
  exact ⟨c, hc, e.symm⟩
structure Blt (mg : Str → Option Value) : Prop where
  b_ValueError : mg "ValueError" = none
  b_abs : mg "abs" = none
  b_all : mg "all" = none
  b_bool : mg "bool" = none
  b_enumerate : mg "enumerate" = none
  b_int : mg "int" = none
  b_isinstance : mg "isinstance" = none
  b_len : mg "len" = none
  b_list : mg "list" = none
  b_min : mg "min" = none
  b_range : mg "range" = none
  b_repr : mg "repr" = none
  b_set : mg "set" = none
  b_str : mg "str" = none
  b_tuple : mg "tuple" = none
  b_zip : mg "zip" = none
/-! ### sorted(set(xs)), xs a list of few ints -/
section
open PySem.Spec PyProof.Rows PySem.Calls
abbrev bareSet (w : World) : Obj := { cls := .type "set", dict := none, data := .set #[] 0 (.fresh 0 0 (!w.params.followText "set-order")) }
/-- what set(xs) leaves behind -/
def SetLeft (w : World) (s : Shared) (ns : List Int) (h' : Heap) (c : Nat) : Prop := SetR w h' s.heap.objs.size (fun j => decide (j ∈ ns)) c ∧ c ≤ ns.length ∧ ∀ b o, s.heap.get? b = some o → h'.get? b = some o
variable {P : Program} {w : World} {A : Around} {E : Value → Shared → Prop} {s : Shared}
theorem items_ints {items : Array Value} {ns : List Int} (hi : IntsAre items.toList ns) (i : Nat) (v : Value) (hv : items[i]? = some v) : ∃ k t, ns[i]? = some k ∧ v = .int k t := by
  have hl : items.size = ns.length := by
    rw [← Array.length_toList]
    exact hi.length
  have hlt : i < ns.length := by
    rw [← hl]
    exact (Array.getElem?_eq_some_iff.mp hv).1
  obtain ⟨t, e⟩ := hi.int_at i v (by rw [Array.getElem?_toList]; exact hv)
  refine ⟨ns[i], t, List.getElem?_eq_getElem hlt, e.trans ?_⟩
  rw [List.getD_eq_getElem?_getD, List.getElem?_eq_getElem hlt]
  rfl
set_option maxHeartbeats 3200000 in
theorem set_of_list {l : Addr} {items : Array Value} {ns : List Int} {Q : Value → Shared → Prop} (hh : A.handled = none) (hl : s.heap.IsList l items) (hi : IntsAre items.toList ns) (hb : ns.length + 1 < scanBound)
    (h : ∀ (h' : Heap) (tk c : Nat), SetLeft w s ns h' c → Q (.ref s.heap.objs.size) { s with heap := h', toks := tk }) : wpAny (model P w) A (call (.type "set") [.ref l]) Q E s := by
  have hsz : items.size = ns.length := by
    rw [← Array.length_toList]
    exact hi.length
  obtain ⟨mc, mt, hmro⟩ := F.called_set.mro
  have a1 := F.called_set.made; have a2 := F.called_set.sub; have a3 := F.called_set.notType; have a4 := F.called_set.canCreate; have a5 := F.typeCall_set_1 (.ref l)
  refine wpAny_call (codeAny_of_tree (show wpAny _ _ (callAny (.type "set") _) _ _ _ from wpAny_pure ⟨Code.quiet_builtin _ (by decide +kernel), codeAny_builtin F.entry_type_call ?_⟩))
  rw [Around.under_plain (weight_type_call_type "set" [.ref l] []) rfl]; repeat (any_goals (first | assumption | wp_step))
  refine codeAny_mono (code_set_led1 (.ref l) (E := E) (Q₁ := fun v s' => v = .ref s.heap.objs.size ∧ s' = { s with heap := s.heap.push (bareSet w) }) ⟨rfl, rfl⟩) fun res s1 hres => ?_
  match res, hres with
  | .error e, hres => exact hres
  | .ok .next, hres => exact hres.elim
  | .ok .cont, hres => exact hres.elim
  | .ok .brk, hres => exact hres.elim
  | .ok (.ret v), hres =>
    obtain ⟨rfl, rfl⟩ := hres
    have g0 : (s.heap.push (bareSet w)).get? s.heap.objs.size = some (bareSet w) := Heap.get?_push_size _ rfl
    have ty0 : Shared.TypeIs { s with heap := s.heap.push (bareSet w) } (.ref s.heap.objs.size) "set" := ⟨_, g0, rfl⟩
    have i1 := F.called_set.init.lookup; have i2 := F.called_set.init.bind (.ref s.heap.objs.size)
    repeat (any_goals (first | assumption | wp_step))
    refine codeAny_mono (codeAny_call_builtin (R := wants (fun v s' => v = .none ∧ ∃ h' tk c, s' = { s with heap := h', toks := tk } ∧ SetLeft w s ns h' c) E) F.called_set.init.plain F.entry_set_init (check_set_init_1 ty0 ?_)) fun res2 s2 hres2 => ?_
    · obtain ⟨⟨lc, ld, la, ls⟩, hol, hcl, nl, hdl⟩ := hl
      simp only at hcl hdl; subst hcl; subst hdl
      have hol1 := Heap.get?_push_of_some (bareSet w) hol
      have hL1 : (s.heap.push (bareSet w)).IsList l items := ⟨_, hol1, rfl, nl, rfl⟩
      have n1 := F.sub_list_set; have n2 := F.sub_list_frozenset; have n3 : (Value.type "list" == Value.type "dict") = false := by decide
      unfold Builtin.«set.__init__» noKeywords Builtin.Frozenset.updateFrom; generalize hgo : pyIter = go; wp_walk; subst hgo
      refine wpAny_pyIter_list hL1 (wpAny_bind (wpAny_runValue ?_))
      have ll := Heap.lt_size hol
      have hhd : A.in1.in1.in1.handled = none := by simp [hh]
      have sz1 : (s.heap.push (bareSet w)).objs.size = s.heap.objs.size + 1 := Heap.size_push ..
      have off : l ≠ (s.heap.push (bareSet w)).objs.size := by rw [sz1]; exact Nat.ne_of_lt (Nat.lt_succ_of_lt ll)
      have out : s.heap.objs.size ∉ [(s.heap.push (bareSet w)).objs.size, l] := by
        intro z
        rcases List.mem_cons.mp z with z | z
        · rw [sz1] at z
          exact absurd z (Nat.ne_of_lt (Nat.lt_succ_self _))
        · exact absurd (List.mem_singleton.mp z) (Nat.ne_of_gt ll)
      refine set_update_ints ((Walks.list hhd _ l off items).toS) s.heap.objs.size out ns hsz hb (items_ints hi) (items.size - 0) 0 _ (by omega) (Nat.zero_le _) ⟨⟨_, Heap.get?_push_size _ rfl, rfl, rfl⟩, hL1.push _⟩ ⟨0, Nat.le_refl 0, setR_new_at (Heap.get?_push_of_some _ g0)⟩ ?_
      rintro ⟨h', g', d', tk', os'⟩ c' hm hc' hS'
      obtain ⟨e1, e2, e3⟩ := (show g' = s.gens ∧ d' = s.drawn ∧ os' = s.os from ⟨hm.gens, hm.drawn, hm.os⟩)
      subst e1; subst e2; subst e3
      refine wpAny_pure (show wpAny _ _ (ret Value.none) _ _ _ from wpAny_pure ⟨rfl, h', tk', c', rfl, hS', by omega, fun b o e => ?_⟩)
      have lb := Heap.lt_size e
      refine hm.heap b o ?_ (Heap.get?_push_of_some _ (Heap.get?_push_of_some _ e))
      intro z
      rcases List.mem_cons.mp z with z | z
      · exact absurd z (Nat.ne_of_lt lb)
      · have z2 := List.mem_singleton.mp z
        rw [sz1] at z2
        exact absurd z2 (Nat.ne_of_lt (Nat.lt_succ_of_lt lb))
    · match res2, hres2 with
      | .error e, hres2 => exact hres2
      | .ok .next, hres2 => exact hres2.elim
      | .ok .cont, hres2 => exact hres2.elim
      | .ok .brk, hres2 => exact hres2.elim
      | .ok (.ret v2), hres2 =>
        obtain ⟨rfl, h', tk, c', rfl, hS'⟩ := hres2
        repeat (any_goals (first | assumption | wp_step))
        exact h _ _ _ hS'
end
open PySem.Spec PyProof.Rows in
/-- sorted of a set of ints, however many -/
theorem set_sorted {P : Program} {w : World} {A : Around} {E : Value → Shared → Prop} {s : Shared} {a : Addr} {S : Int → Bool} {n : Nat} {Q : Value → Shared → Prop} (R : SetR w s.heap a S n) (hh : A.handled = none)
    (q : ∀ s' p (out : List Value) (c : Nat) (ms : List Int), (∀ b o, s.heap.get? b = some o → s'.heap.get? b = some o) → s'.gens = s.gens → s'.os = s.os → s.heap.objs.size ≤ p →
      s'.heap.get? p = some (seqObj "list" out.toArray c) → IntsAre out ms → ms.Pairwise (· < ·) → (∀ k, k ∈ ms ↔ S k = true) → ms.length = n → Q (.ref p) s') : wpAny (model P w) A (call (.builtin "sorted") [.ref a]) Q E s := by
  obtain ⟨o, es, ep, t, g1, g2, g3, good, nod, mem, g4, g5, g6, g7, g8⟩ := R
  refine Calls.call_function_entry kind_sorted plain_sorted entry_sorted (args_sorted1 _) ?_; unfold Builtin.«sorted»
  refine wpAny_bind (m := checkCount "sorted" 1 1 _) (wpAny_pure (wpAny_bind (collect_set (A := A.in1) hh ⟨o, g1, g2.1, g3⟩ g5 g4 g7 g8 fun s1 vs k1 z1 e1 e2 pm => ?_)))
  have len : vs.length = n := by
    rw [pm.length_eq, List.length_map, Array.length_toList]
    exact g6
  have ivs : ∀ e ∈ es.toList, SrtO.iv e.2 = keyOf e := fun e he => by
    obtain ⟨k, tk, h1, _⟩ := good e he
    unfold keyOf
    rw [h1]
    rfl
  have hI : IntsAre vs (vs.map SrtO.iv) := SrtO.ints_iv fun v hv => by
    obtain ⟨e, he, ev⟩ := List.mem_map.mp (pm.mem_iff.mp hv)
    obtain ⟨k, tk, h1, _⟩ := good e he
    exact ⟨k, tk, ev.symm.trans h1⟩
  have prm : (vs.map SrtO.iv).Perm (es.toList.map keyOf) := by
    refine (pm.map SrtO.iv).trans ?_
    rw [List.map_map]
    exact List.Perm.of_eq (List.map_congr_left ivs)
  have zn : n ≤ sizeLine := by
    unfold scanBound at g4
    exact szl (by omega)
  refine wpAny_bind (wpAny_newList ?_ (by rw [len]; exact zn))
  have at1 : (s1.heap.push (seqObj "list" vs.toArray 0)).get? s1.heap.objs.size = some (seqObj "list" vs.toArray 0) := Heap.get?_push_size _ rfl
  refine wpAny_bind (wpAny_holding (wpAny_call_entry slot_list_sort ⟨_, at1, rfl⟩ entry_list_sort (SrtO.list_sort_ord SrtO.swo_int at1 (by rw [len]; exact zn) (fun two => SrtO.ints_sortable hI two) fun out o1 o2 => ⟨_, rfl, ?_⟩) (args_list_sort _)))
  obtain ⟨j1, j2, j3⟩ := SrtO.ints_out hI o1 o2
  obtain ⟨c, at2⟩ := sortedHeap_at (vs := vs) (out := out.toArray) at1
  have prm2 := j2.trans prm
  refine wpAny_pure ⟨_, rfl, q _ s1.heap.objs.size out c _ (fun b u e => ?_) e1 e2 z1 at2 j1 (lt_of_le_nodup _ j3 (prm2.nodup_iff.mpr nod)) (fun k => by rw [prm2.mem_iff, ← mem k]) (by rw [prm2.length_eq, List.length_map, Array.length_toList]; exact g6)⟩
  have e3 := k1 b u e
  have l3 := Heap.lt_size e3
  exact (sortedHeap_old (vs := vs) (out := out.toArray) (Nat.ne_of_lt l3) (by rw [size_push']; exact Nat.lt_succ_of_lt l3)).trans (Heap.get?_push_of_some _ e3)
def tSortSet (K : PySem.W.Frag) (ta : TE) : TE := fun σ H Q => ta σ H fun x H1 => ∃ (l : Addr) (ns : List Int), x = .ref l ∧ SqL K H1 l (ns.map V.int) ∧ ns.length ≤ 4000 ∧
  ∀ (out : List Int) (p : Addr), H1 p = none → out.Pairwise (· < ·) → (∀ k, k ∈ out ↔ k ∈ ns) → out.length ≤ ns.length → Q (.ref p) (upd H1 p (.lst (out.map V.int)))
open PySem.Spec PyProof.Rows in
theorem pe_sortSet {X : Cx} {a : Expr} {ta : TE} {p p2 q pos : Pos} (hg : Gl X "sorted") (hm : X.mg "sorted" = none) (hg2 : Gl X "set") (hm2 : X.mg "set" = none) (ha : PE X a ta) (hc : X.calm = true := by rfl)
    (na : starEach [a] X.env = (false, eval a X.env) :: starEach [] X.env := by rfl) : PE X (.Call (.Name "sorted" p) [.Call (.Name "set" p2) [a] [] q] [] pos) (tSortSet X.K ta) := by
  refine ⟨fun pins s σ H Q I h => ?_⟩
  refine Call_ (ld_blt I hg hm boot_sorted (callWith_builtin1 (args_cons (Call_ (ld_blt I hg2 hm2 boot_set (callWith_type1 (args_cons (thn (ha.run pins s σ H _ I h) fun v s1 ⟨x, H1, I1, r1, q1⟩ => args_nil ?_) na) na rfl))) rfl) rfl rfl))
  obtain ⟨l, ns, rfl, hq, hn, q1⟩ := q1
  cases r1
  obtain ⟨its, r, pl, hz⟩ := I1.list hq
  have hd := I1.ok.hd hc
  refine set_of_list hd pl.isList (by simpa using ints_of_vals r) (by unfold scanBound; omega) fun h' tk c hL => args_nil ?_
  obtain ⟨R1, hcn, kept⟩ := hL
  refine set_sorted (s := { s1 with heap := h', toks := tk }) R1 hd fun s' pp out cc ms k g o hp hgt hi hs hmem hlen => ?_
  have kk : ∀ b u, s1.heap.get? b = some u → s'.heap.get? b = some u := fun b u e => k b u (kept b u e)
  have hpp : s1.heap.objs.size ≤ pp := Nat.le_trans (Nat.le_of_lt R1.lt) hp
  have fr : H1 pp = none := I1.hok.fresh hpp
  have sl : (ms.map V.int).length ≤ sizeLine := by
    rw [List.length_map, hlen]
    exact szl (by omega)
  have hos : s'.os = s1.os := o
  have J : Inv X pins σ (upd H1 pp (.lst (ms.map V.int))) { s1 with heap := s'.heap, gens := s'.gens, drawn := s'.drawn, toks := s'.toks } :=
    I1.call (ch := []) (Un.laid kk hpp fr) (I1.hok.laid kk hpp ⟨sl, out, cc, vals_of_ints hi, hgt⟩) (by rw [g]; exact I1.bare) (fun _ z => nomatch z)
  have es : s' = { s1 with heap := s'.heap, gens := s'.gens, drawn := s'.drawn, toks := s'.toks } := by
    obtain ⟨b1, b2, b3, b4, b5⟩ := s'
    simp only at hos
    subst hos
    rfl
  rw [es]
  exact ⟨.ref pp, _, J, rfl, q1 ms pp fr hs (fun j => (hmem j).trans decide_eq_true_iff) (by omega)⟩
local macro_rules | `(tactic| walk_at "ev1") => `(tactic| first
  | with_reducible assumption
  | ((with_reducible show _ = _); exact rfl)
  | ((first | with_reducible show (_ : Int) = _ | with_reducible show (_ : Int) < _ | with_reducible show (_ : Int) ≤ _ | with_reducible show (_ : Nat) < _ | with_reducible show (_ : Nat) ≤ _); first | omega | decide | (simp only [pw6, pw9]; omega) | (simp only [List.length_cons, List.length_nil, List.length_append, List.length_map, List.length_replicate]; omega))
  | assumption
  | exact upd_same
  | exact SqL.of upd_same
  | exact Or.inl (SqL.of upd_same)
  | exact Or.inl (by assumption)
  | exact Or.inr (by assumption)
  | omega
  | exact (show CDiv _ _ from ⟨by omega, by omega⟩)
  | exact (show CPow _ _ from ⟨by omega, by omega, by omega⟩)
  | exact (show CMul _ _ from .inl ⟨by omega, by omega⟩)
  | exact (show CMul _ _ from .inr ⟨by omega, by omega⟩)
  | exact (show CMul _ _ from cmul_b)
  | exact (show CDivW _ _ from wide_div (b := 31) (by omega) (by omega) (by decide) (by decide))
  | exact (Or.inl ⟨rfl, _, SqL.of (by assumption)⟩)
  | exact ClsV.ty _
  | exact .cons (.ty _) (.cons (.ty _) .nil)
  | (refine szl ?_; simp only [List.length_cons, List.length_nil, List.length_append, List.length_map, List.length_replicate]; omega)
  | (refine szm ?_; simp only [List.length_cons, List.length_nil, List.length_append, List.length_map, List.length_replicate]; omega))
local macro_rules | `(tactic| walk_at "s") => `(tactic| (first
  | (refine And.intro ?l ?_; (case l => walk_at "ev1"))
  | with_reducible refine iteT ?_
  | with_reducible refine iteF ?_
  | with_reducible refine ite_dec rfl ?_
  | with_reducible refine iteNS rfl ?_
  | with_reducible refine iteNS (by assumption) ?_
  | (apply Or.inl; apply Exists.intro; apply And.intro rfl)
  | (apply Or.inr; apply Exists.intro; apply And.intro rfl)
  | ((fail_if_success (refine @Exists.intro (Nat → Nat → L2.St → Hp → Prop) _ ?_ ?_)); (fail_if_success (refine @Exists.intro (Nat → L2.St → Hp → Prop) _ ?_ ?_)); (fail_if_success (refine @Exists.intro (L2.St → Hp → Prop) _ ?_ ?_)); (fail_if_success (refine @Exists.intro (Hp → Prop) _ ?_ ?_)); (fail_if_success (refine @Exists.intro (Nat → Nat → Hp → Prop) _ ?_ ?_)); apply Exists.intro)))
local macro_rules | `(tactic| walk_at "ev") => `(tactic| repeat (walk_at "s"))
local macro_rules | `(tactic| w_cond $i:ident) => do
  let b := (i.getId.toString.drop 1).toString
  let l := Lean.mkIdent (.mkSimple ("l" ++ b))
  let hl := Lean.mkIdent (.mkSimple ("hl" ++ b))
  let h := Lean.mkIdent (.mkSimple ("H" ++ b))
  let sm := Lean.mkIdent (.mkSimple ("sm" ++ b))
  let hq := Lean.mkIdent (.mkSimple ("hq" ++ b))
  `(tactic| (intro $l:ident $hl:ident; generalize hG : upd _ $l:ident _ = $h:ident; obtain ⟨$sm:ident, $hq:ident⟩ := newO hG $hl:ident; clear hG))
/-! ### a caught exception that a name keeps behind its clause -/
/-- at a: an exception of the class at C, its dict at d -/
def XOb (C d a : Addr) : HO := .ext fun h => ∃ (ob : Obj) (fl : Array Value), h.get? a = some ob ∧ Zc (.ref C) (some d) ob ∧ ob.data = .fields fl
theorem xob_ok {P : Program} {w : World} {H : Hp} {h : Heap} {C d a : Addr} {ob : Obj} {fl : Array Value} (q1 : h.get? a = some ob) (q2 : Zc (.ref C) (some d) ob) (q3 : ob.data = .fields fl) : ObjOk P w H h a (XOb C d a) :=
  ⟨⟨ob, fl, q1, q2, q3⟩, ⟨ob, q1⟩, fun _ _ ⟨u, v, r1, r2⟩ k => ⟨u, v, k u r1, r2⟩⟩
/-- an object of the heap that nobody tracks is tracked from now on -/
theorem track {X : Cx} {pins : List (Addr × Obj)} {σ : L2.St} {H : Hp} {s : Shared} {a : Addr} {o : HO} (I : Inv X pins σ H s) (n0 : X.s_0.heap.get? a = none) (hn : H a = none) (nL : a ≠ X.env.locals) (nC : ∀ x c, X.env.cells.lookup x = some c → c ≠ a)
    (nP : ∀ p ∈ X.pn ++ pins, p.1 ≠ a) (new : ObjOk X.prog X.w (upd H a o) s.heap a o) : Inv X pins σ (upd H a o) s := by
  have ne : ∀ {b : Addr} {u : HO}, H b = some u → b ≠ a := fun e => ne_of_none e hn
  refine ⟨I.ok, I.os, I.bare, ⟨I.base.keep, I.base.slot, fun b u e n hx => ?_, I.base.there, fun b xs e => ?_, fun b u v e => ?_, fun b ps e => ?_⟩, I.loc, I.cell, ?_, fun x c e => ?_, fun p hp => ?_, I.hok.laidN (fun _ _ z => z) hn new, I.len⟩
  · have : b ≠ a := fun z => by
      rw [z, n0] at e
      cases e
    rw [upd_ne this]
    exact I.base.free b u e n hx
  · have q := I.base.tups b xs e
    rw [upd_ne (ne q)]
    exact q
  · have q := I.base.frzs b u v e
    rw [upd_ne (ne q)]
    exact q
  · obtain ⟨m, q⟩ := I.base.tbls b ps e
    exact ⟨m, by rw [upd_ne (ne q)]; exact q⟩
  · rw [upd_ne nL.symm]
    exact I.free
  · rw [upd_ne (nC x c e)]
    exact I.freeC x c e
  · obtain ⟨e, n, r⟩ := I.pin p hp
    exact ⟨e, by rw [upd_ne (nP p hp)]; exact n, r⟩
/-- what 'except x as n: ..' wishes, the exception tracked behind it -/
def wKeep (K : PySem.W.Frag) (c : Value) (i : Nat) (ts : Addr → TS) (Wout : WX) (D : Ends) : WX := fun cls d σ H =>
  ∃ b, PySem.W.exmOne K cls c = some b ∧ (b = true → ∃ C dd, cls = .ref C ∧ d = some dd ∧ ∀ a, H a = none →
    ts a { nx := fun σ2 H2 => D.nx (σ2.set i none) (upd H2 a (XOb C dd a)), rt := fun _ _ => False, bk := fun _ _ => False, ct := fun _ _ => False } (σ.set i (some (.ref a))) H) ∧ (b = false → Wout cls d σ H)
section
variable {X : Cx} {x n : Str} {c : Value} {i : Nat} {body suite : List Stmt} {b₀ : Stmt} {np pos pos' : Pos} {tb : WX → TS} {ts : Addr → TS} {Wout : WX}
theorem ps_try_keep (hs : X.stack = X.env :: X.outer) (hf : X.env.frame = some X.env.locals) (hex : X.ex = []) (hN : X.N.Nodup) (hi : X.N[i]? = some n) (hln : X.env.kindOf n = some .local) (hc : Names X x c) (tk : Takes X Wout)
    (hb : ∀ (W : WX) (pn : List (Addr × Obj)) (xe : Value → Shared → Prop), Takes (X.tr pn xe) W → PassesOwn (model X.prog X.w) X.A X.env xe → PSs (X.tr pn xe) body (tb W))
    (hsu : ∀ (a : Addr) (pn : List (Addr × Obj)), PSs (X.suite a pn) (b₀ :: suite) (ts a)) :
    PS X (.Try body [.ExceptHandler (some (.Name x np)) (some n) (b₀ :: suite) pos'] [] [] pos) (fun D σ H => tb (wKeep X.K c i ts Wout D) D σ H) := by
  refine ⟨fun pins s σ H D I h => ?_⟩
  have ok := I.ok
  have fr : X.A.frames = some (X.env :: X.outer) := ok.frames.trans (congrArg some hs)
  refine wpAny_Try_except (wpAny_mono ((hb (wKeep X.K c i ts Wout D) (X.pn ++ pins) (fun e s1 => wpAny (model X.prog X.w) X.A (noteFrame e X.env)
    (fun _ s2 => wpAny (model X.prog X.w) X.A (setFlight e none) (fun _ s3 => wpAny (model X.prog X.w) X.A (handleBy e X.env [.ExceptHandler (some (.Name x np)) (some n) (b₀ :: suite) pos']) (SP X pins D) X.xe s3) X.xe s2) X.xe s1)
    (fun u s1 fly => ?_) PassesOwn.looking).run [] s σ H D (I.toTry _) h) (fun f s1 q => ?_) (fun _ _ z => z))
  · obtain ⟨a, B, s0, pins1, σ1, H1, cls, d, rfl, J0, nb, up, sky, na, os, ag, b, hm, yes, no⟩ := fly
    have J : Inv X pins σ1 H1 s0 := J0.ofTry ok
    have sky1 : Sky B (X.env :: X.outer) a (Zc cls d) X.env.locals s1.heap := hs ▸ sky
    show wpAny (model X.prog X.w) X.A (noteFrame (.ref a) X.env) _ _ _
    refine Sky.land Zc.steady fr hf sky1 fun g3 fly3 up3 => ?_
    have J3 : Inv X pins σ1 H1 { s1 with heap := g3 } := J.landed nb fly3.1 (up.trans up3) os ag
    obtain ⟨o3, f3, e3, z3, d3⟩ := fly3.there
    have away : a ∉ frs (X.env :: X.outer) := fun hmem => by
      obtain ⟨_, o', e', hnf⟩ := fly3.2.2.1.mem hmem
      cases e3.symm.trans e'
      exact hnf _ d3
    have nL : a ≠ X.env.locals := fun z => away (List.mem_filterMap.mpr ⟨X.env, List.mem_cons_self, hf.trans (congrArg some z.symm)⟩)
    have nF : a ∉ X.fs := fun hmem => by
      obtain ⟨e, he, q⟩ := List.mem_filterMap.mp hmem
      exact away (List.mem_filterMap.mpr ⟨e, List.mem_cons_of_mem _ he, q⟩)
    have nB : B.get? a = none := fly3.2.1
    have n0 : X.s_0.heap.get? a = none := by
      cases e : X.s_0.heap.get? a with
      | none => rfl
      | some o =>
        obtain ⟨o', q⟩ := J.base.there a o e (by rw [hex]; exact fun z => nomatch z)
        have q2 := nb a o' q (by rw [hs]; exact away)
        rw [nB] at q2
        cases q2
    have nP : ∀ p ∈ X.pn ++ pins, p.1 ≠ a := fun p hp z => by
      obtain ⟨q, _⟩ := J.pin p hp
      have q2 := nb p.1 p.2 q (by rw [hs, z]; exact away)
      rw [z, nB] at q2
      cases q2
    have S3 := J3.suite e3 d3 na nL nF
    have lt : PySem.W.Looks (model X.prog X.w) g3 (typeOf (.ref a)) cls := fun A Q E s k q => wpAny_typeOf_ref (k _ _ e3) (by rw [z3.1]; exact q)
    have lm := PySem.W.exm_one (M := model X.prog X.w) J3.kIn lt hm
    refine wpAny_handleBy_cons (codeAny_handlers_test ?_) (fun q => nomatch q)
    have named : ∀ {Q E : Value → Shared → Prop}, Q c { s1 with heap := g3 } → wpAny (model X.prog X.w) (X.A.mark (some (.ref a))) (eval (.Name x np) X.env) Q E { s1 with heap := g3 } := fun {Q E} q => by
      rcases hc with ⟨hg, hdb, hm1 | ⟨hm1, hv, hnn⟩⟩
      · exact ld_glob (X := X.suite a ((a, o3) :: (X.pn ++ pins))) S3 hg hm1 q hdb
      · exact ld_blt (X := X.suite a ((a, o3) :: (X.pn ++ pins))) S3 hg hm1 hv q hnn hdb
    refine named (lm.here ?_)
    cases b with
    | true =>
      obtain ⟨C, dd, ec, ed, yes⟩ := yes rfl
      refine codeAny_handlers_suite_as (HandSPX.lands_againZ fly3 fun g4 fly4 up4 => ?_)
      have J4 : Inv X pins σ1 H1 { s1 with heap := g4 } := J.landed nb fly4.1 ((up.trans up3).trans up4) os ag
      obtain ⟨o4, f4, e4, z4, d4⟩ := fly4.there
      refine store_ok (X := X.suite a ((a, o4) :: (X.pn ++ pins))) (v := .ref a) (J4.suite e4 d4 na nL nF) hN hi (.inl hln) rfl (fun s5 S5 => ?_) (.inr hln)
      refine wpAny_mono ((hsu a ((a, o4) :: (X.pn ++ pins))).run [] s5 _ H1 _ S5 (yes a na)) (fun f s6 q6 => ?_) (fun _ _ z => z.elim)
      cases f with
      | next =>
        obtain ⟨σ6, H6, S6, q6⟩ := q6
        refine gone_ok (X := X.suite a ((a, o4) :: (X.pn ++ pins))) (pins := []) S6 hN hi hln fun s7 S7 => ?_
        obtain ⟨e7, n7, _⟩ := S7.pin (a, o4) (List.mem_append_left _ List.mem_cons_self)
        refine ⟨_, _, track (S7.unsuite ok) n0 n7 nL (fun y c' ey z => ?_) nP (xob_ok (C := C) (d := dd) e7 (by rw [← ec, ← ed]; exact z4) d4), q6⟩
        obtain ⟨v, ob, q1, q2⟩ := S7.cell y c' ey
        subst z
        cases e7.symm.trans q1
        cases d4.symm.trans q2
      | brk =>
        obtain ⟨_, _, _, q6⟩ := q6
        exact q6.elim
      | cont =>
        obtain ⟨_, _, _, q6⟩ := q6
        exact q6.elim
      | ret u =>
        obtain ⟨_, _, _, _, _, q6⟩ := q6
        exact q6.elim
    | false =>
      show wpAny _ X.A (handleBy (.ref a) X.env []) _ _ _
      refine wpAny_handleBy_nil ?_
      obtain ⟨k1, k2, k3, ob, fl, T, oT, tl, he, hz, hd, h1, hr⟩ := id fly3
      unfold PySem.passOn
      refine wpAny_bind (wpAny_field he hd h1 ?_)
      rw [if_neg (show ¬ ((Value.ref T == Value.none) = true) from by simp)]
      have fin : wpAny (model X.prog X.w) X.A (setFlight (.ref a) X.env.frame) (fun _ s4 => wpAny (model X.prog X.w) X.A (throw (.ref a) : Sem Flow) (SP X pins D) X.xe s4) X.xe { s1 with heap := g3 } := by
        rw [hf]
        exact HandSPX.setFlight_upZ fly3 fun g4 held4 up4 => wpAny_throw (tk _ _ ⟨a, B, s0, pins, σ1, H1, cls, d, rfl, J, nb, (up.trans up3).trans up4, .inr (.inr (hs ▸ held4)), na, os, ag, no rfl⟩)
      first
        | exact wpAny_bind (wpAny_pure (wpAny_bind fin))
        | exact wpAny_bind fin
  · cases f with
    | next =>
      obtain ⟨σ1, H1, J, q⟩ := q
      exact wpAny_execs_nil ⟨σ1, H1, J.ofTry ok, q⟩
    | brk =>
      obtain ⟨σ1, H1, J, q⟩ := q
      exact ⟨σ1, H1, J.ofTry ok, q⟩
    | cont =>
      obtain ⟨σ1, H1, J, q⟩ := q
      exact ⟨σ1, H1, J.ofTry ok, q⟩
    | ret u =>
      obtain ⟨v, σ1, H1, J, r, q⟩ := q
      exact ⟨v, σ1, H1, J.ofTry ok, r, q⟩
end
/-- what is told of an own exception class -/
structure ExK (K : PySem.W.Frag) (C : Addr) : Prop where
  oex : OexC K C
  xf : XfC K C
  ec : ExcC K C
  nw : PySem.W.findIn K (.ref C) "what" = some none
/-- an exception object, tracked, with its fields -/
def XAt (H : Hp) (a C : Addr) (fs : List (Str × V)) : Prop := ∃ d, H a = some (XOb C d a) ∧ H d = some (.xd fs)
theorem XAt.same {H H' : Hp} {a C : Addr} {fs : List (Str × V)} (h : XAt H a C fs) (e : Same H H') : XAt H' a C fs := by
  obtain ⟨d, h1, h2⟩ := h
  exact ⟨d, e _ _ h1, e _ _ h2⟩
theorem xat_inst {X : Cx} {pins : List (Addr × Obj)} {σ : L2.St} {H : Hp} {s : Shared} {a C : Addr} {fs : List (Str × V)} (I : Inv X pins σ H s) (h : XAt H a C fs) : ∃ (ob od : Obj) (mA : Str → Option Value), PySem.W.InstAt s.heap a ob C (some od) ∧ (∀ name, PySem.W.lookIn name od = some (mA name)) ∧ ∀ f, RelO (fs.lookup f) (mA f) := by
  obtain ⟨d, h1, h2⟩ := h
  obtain ⟨⟨ob, fl, q1, q2, q3⟩, _, _⟩ := (show ObjOk X.prog X.w H s.heap a (XOb C d a) from I.hok a _ h1)
  obtain ⟨mA, hns, hr⟩ := (show ObjOk X.prog X.w H s.heap d (.xd fs) from I.hok d _ h2)
  obtain ⟨od, ho, hl⟩ := lookIn_ns hns
  exact ⟨ob, od, mA, ⟨q1, q2.1, by unfold PySem.W.notCls; rw [q3] <;> rfl, by rw [q2.2]; exact ho⟩, hl, hr⟩
/-- isinstance(e, c), e tracked -/
def rIsX (K : PySem.W.Frag) : List V → Hp → VK → Prop := fun xs H Q => ∃ (a C : Addr) (fs : List (Str × V)) (c : V) (cv : Value) (b : Bool), xs = [.ref a, c] ∧ XAt H a C fs ∧ ExK K C ∧ ClsV c cv ∧ PySem.W.kitOne K (.ref C) cv = some b ∧ Q (.bl b) H
def rIsXT (K : PySem.W.Frag) : List V → Hp → VK → Prop := fun xs H Q => ∃ (a C tp : Addr) (fs : List (Str × V)) (cs : List V) (us : List Value) (b : Bool), xs = [.ref a, .ref tp] ∧ H tp = some (.tup cs) ∧ XAt H a C fs ∧ ExK K C ∧ Paired ClsV cs us ∧ PySem.W.kitAny K (.ref C) us = some b ∧ Q (.bl b) H
theorem kit_x {K : PySem.W.Frag} {a C : Addr} {ob od : Obj} (E : ExK K C) : PySem.W.KitX K (.ref a) (.ref C) (fun h => PySem.W.InstAt h a ob C (some od)) := by
  obtain ⟨cd, hc, _⟩ := PySem.W.any_some E.ec.hd
  exact PySem.W.kitx_exc (by rw [hc]; rfl) E.ec.hg E.ec.hk E.ec.hs E.ec.ha E.ec.hn E.ec.ht E.ec.hm
theorem call_isX {X : Cx} : CallR X (.builtin "isinstance") (rIsX X.K) := by
  intro pins s σ H xs us Q I r h
  obtain ⟨a, C, fs, c, cv, b, rfl, hx, E, k, e, q⟩ := h
  obtain ⟨u1, u2, rfl, r1, r2⟩ := vals2 r
  cases (show u1 = Value.ref a from r1)
  have e2 := k.eq r2
  subst e2
  obtain ⟨ob, od, mA, J, _, _⟩ := xat_inst I hx
  exact PySem.W.kia_one (kit_x E) I.kIn J e (fun z => nomatch z) fun tk => ⟨.bl b, H, I.tok tk, rfl, q⟩
theorem call_isXT {X : Cx} : CallR X (.builtin "isinstance") (rIsXT X.K) := by
  intro pins s σ H xs us Q I r h
  obtain ⟨a, C, tp, fs, cs, ws, b, rfl, hT, hx, E, k, e, q⟩ := h
  obtain ⟨u1, u2, rfl, r1, r2⟩ := vals2 r
  cases (show u1 = Value.ref a from r1)
  cases (show u2 = Value.ref tp from r2)
  obtain ⟨ob, od, mA, J, _, _⟩ := xat_inst I hx
  obtain ⟨_, its, rv, o, h1, h2, n, h3⟩ := (show ObjOk X.prog X.w H s.heap tp (.tup cs) from I.hok tp _ hT)
  have e3 := ClsV.all k rv
  subst e3
  rcases o with ⟨oc, od', dt, sl⟩
  dsimp only at h2 h3
  cases h2
  cases h3
  exact PySem.W.kia_tup (kit_x E) I.kIn J h1 e (fun z => nomatch z) fun tk => ⟨.bl b, H, I.tok tk, rfl, q⟩
/-- e.f, e tracked -/
def tXw (K : PySem.W.Frag) (f : Str) (te : TE) : TE := fun σ H Q => te σ H fun x H1 => ∃ (a C : Addr) (fs : List (Str × V)) (v : V), x = .ref a ∧ XAt H1 a C fs ∧ ExK K C ∧ PySem.W.findIn K (.ref C) f = some none ∧ fs.lookup f = some v ∧ Q v H1
theorem pe_xw {X : Cx} {e : Expr} {te : TE} {pos : Pos} {n : Str} (he : PE X e te) (hb : attributeBase e n X.env (eval e X.env) = eval e X.env := by rfl) : PE X (.Attribute e n pos) (tXw X.K n te) := by
  refine ⟨fun pins s σ H Q I h => attr_of hb (thn (he.run pins s σ H _ I h) fun u s1 hh => ?_)⟩
  obtain ⟨x, H1, I1, rx, a, C, fs, v, ex, hx, E, hno, l, q⟩ := hh
  subst ex
  cases (show u = Value.ref a from rx)
  obtain ⟨ob, od, mA, J, hl, hr⟩ := xat_inst I1 hx
  obtain ⟨u, hu, ru⟩ := RelO.some_of (v := v) (o := mA n) (by rw [← l]; exact hr n)
  exact HandSPX.exc_get I1.kIn J E.xf.ga E.xf.gg E.xf.exC (PySem.W.findObj_own E.xf.hdC hno rfl (by rw [hl, hu])) (handed_of ru) ⟨v, H1, I1.tok _, ru, q⟩
/-! ### methods and classes, what they raise wished for at the caller's slots -/
def tMethS (C : Addr) (m : Str) (sp : Sp) (E : L2.St → XK) (ta : TE) (t : TA) : TE := fun σ H Q => ta σ H fun x H1 => ∃ a dx fs, x = .ref a ∧ H1 a = some (.ins C dx fs) ∧ fs.lookup m = none ∧ t σ H1 fun vs H2 => sp (x :: vs) H2 Q (E σ)
def tMakeS (C : Addr) (sp : Sp) (E : L2.St → XK) (t : TA) : TE := fun σ H Q => t σ H fun vs H1 => ∀ x dx, H1 x = none → H1 dx = none → dx ≠ x → sp (.ref x :: vs) (upd (upd H1 dx (.own x)) x (.ins C dx [])) (fun v H2 => v = .non ∧ Q (.ref x) H2) (E σ)
section
variable {X : Cx} {CX : CXT} {k : Nat} {f C : Addr} {fd : FuncData} {ps : List Str} {sp : Sp} {E : L2.St → XK} {x m : Str} {p pos apos : Pos} {e o : Expr} {es : List Expr} {ta : TE} {t : TA}
theorem pe_methS {pl : Sem Bool} (he : PE X o ta) (c : L2.Cls X.K C) (hm : Meth X.K C m f) (F : FnOk X.prog X.w X.K X.mg X.base CX k f fd ps sp) (hr : Room k X.A) (hb : Binds X.K fd ps []) (hx : ∀ σ, PassesAt CX X σ (E σ)) (ha : PA X (e :: es) t)
    (hst : starEach (e :: es) X.env = (false, eval e X.env) :: starEach es X.env := by rfl) (hpl : (backTo pos (starEach es X.env)).any (·.1) = false := by rfl)
    (ht : eval (.Call (.Attribute o m apos) (e :: es) [] pos) X.env = (do
      let ov ← eval o X.env
      standAt apos.atName
      let (f, first) ← holding [ov] (getMethod ov m pl)
      callWith pos f first (backTo pos (starEach (e :: es) X.env)) (backToKw pos (keywordEach [] X.env))) := by rfl) : PE X (.Call (.Attribute o m apos) (e :: es) [] pos) (tMethS C m sp E ta t) := by
  refine ⟨fun pins s σ H Q I h => PySem.W.methodCall_KW (pl := pl) (thn (he.run pins s σ H _ I h) fun u s1 q1 => ?_) ht⟩
  obtain ⟨y, H1, I1, ry, a, dx, fs, ey, ea, l, q⟩ := q1
  subst ey
  cases (show u = Value.ref a from ry)
  refine getmeth_ok I1 ea c hm l (PySem.W.callWith_K (first := [.ref a]) (h₀ := X.base) I.ok.mod.kin hm.kp (thn (ha.run pos pins s1 σ H1 _ I1 q) fun us s2 q2 => ?_) hst hpl)
  obtain ⟨vs, H2, I2, r, q2⟩ := q2
  exact ⟨I2.kIn, run_fnS (us := .ref a :: us) (vs := .ref a :: vs) F hr hb (hx σ) I2 (.cons rfl r) q2⟩
theorem run_makeS {pins : List (Addr × Obj)} {σ : L2.St} {H : Hp} {s : Shared} {Q : VK} {us : List Value} {vs : List V} (M : Mk X.K C f) (F : FnOk X.prog X.w X.K X.mg X.base CX k f fd ps sp) (hr : Room (k + 1) X.A) (hb : Binds X.K fd ps []) (hx : PassesAt CX X σ (E σ)) (I : Inv X pins σ H s) (r : Vals vs us)
    (h : ∀ y dx, H y = none → H dx = none → dx ≠ y → sp (.ref y :: vs) (upd (upd H dx (.own y)) y (.ins C dx [])) (fun v H2 => v = .non ∧ Q (.ref y) H2) (E σ)) : wpAny (model X.prog X.w) X.A (call (.ref C) us) (EP X pins σ Q) X.xe s := by
  have hq := h (s.heap.objs.size + 1) s.heap.objs.size (I.hok.fresh (Nat.le_succ _)) (I.hok.fresh (Nat.le_refl _)) (Nat.ne_of_lt (Nat.lt_succ_self _))
  have J := Inv.made (C := C) I
  have r2 : Vals (V.ref (s.heap.objs.size + 1) :: vs) (Value.ref (s.heap.objs.size + 1) :: us) := .cons rfl r
  have hl : (Value.ref (s.heap.objs.size + 1) :: us).length = ps.length := r2.length.symm.trans (F.len _ _ _ _ hq)
  have bi := hb _ (Value.ref (s.heap.objs.size + 1) :: us) J.kIn (by rw [List.append_nil]; exact hl)
  rw [List.append_nil] at bi
  refine wpAny_call (make_map (f := f) I.kIn M.makes M.init (beq_iff_eq.mp M.fn) (codeAny_mono (F.run _ X.stack _ _ ⟨_, []⟩ _ _ _ (E σ) (hr.make C us []) (J.env0.make C us []) bi r2 hq) fun rs s1 q1 => ?_))
  cases rs with
  | error er => exact hx pins _ _ er s1 J q1
  | ok fl =>
    cases fl with
    | ret u =>
      obtain ⟨v, H3, I3, rv, ev, q3⟩ := J.after q1
      subst ev
      exact ⟨rv, ⟨V.ref (s.heap.objs.size + 1), H3, I3, rfl, q3⟩⟩
    | next => exact q1.elim
    | brk => exact q1.elim
    | cont => exact q1.elim
theorem pe_makeS (M : Mk X.K C f) (F : FnOk X.prog X.w X.K X.mg X.base CX k f fd ps sp) (hr : Room (k + 1) X.A) (hg : Gl X x) (hm : X.mg x = some (.ref C)) (hb : Binds X.K fd ps []) (hx : ∀ σ, PassesAt CX X σ (E σ)) (ha : PA X (e :: es) t)
    (hdb : (x == ("__debug__" : Str)) = false := by decide) (he : starEach (e :: es) X.env = (false, eval e X.env) :: starEach es X.env := by rfl) (hpl : (backTo pos (starEach es X.env)).any (·.1) = false := by rfl) : PE X (.Call (.Name x p) (e :: es) [] pos) (tMakeS C sp E t) := by
  refine ⟨fun pins s σ H Q I h => wpAny_Call_Name_kw (ld_glob I hg hm (PySem.W.callWith_K (h₀ := X.base) I.ok.mod.kin M.kp (thn (ha.run pos pins s σ H _ I h) fun us s1 q1 => ?_) he hpl) hdb)⟩
  obtain ⟨vs, H1, I1, r, q⟩ := q1
  exact ⟨I1.kIn, run_makeS M F hr hb (hx σ) I1 r q⟩
end
/-! ### xs[i] op= e, xs a list -/
section
open PySem.Spec PyProof.Rows
variable {X : Cx}
theorem get_list : PGet X (rIxL X.K) := by
  intro pins s σ H o i ov iv Q I ro ri h
  obtain ⟨p, xs, k, z, rfl, rfl, hq, he, q⟩ := h
  cases ro
  obtain ⟨t, rfl⟩ := ri
  obtain ⟨its, r, pl, hz⟩ := I.list hq
  obtain ⟨j, h1, h2, h3, h4, h5⟩ := atI_get he
  obtain ⟨w, ew, rw'⟩ := r.get h2
  have hl := r.length
  have hn := line63
  have fin : EP X pins σ Q w s := ⟨z, H, I, rw', q⟩
  by_cases h0 : 0 ≤ k
  · have hj : k.toNat = j := by
      rw [seqIndex_of h0 h5] at h1
      exact Option.some.inj h1
    exact wpAny_getItem_list pl.isList h0 (by omega) (by rw [hj]; simpa using ew) fin
  · have hj : (k + (its.toArray.size : Int)).toNat = j := by
      rw [seqIndex_neg (by omega) h4] at h1
      rw [List.size_toArray, ← hl]
      exact Option.some.inj h1
    exact wpAny_getItem_list_neg pl.isList (by omega) (by rw [List.size_toArray] <;> omega) (by omega) (by rw [hj]; simpa using ew) fin
end
/-! ### the drawing -/
theorem log2_lt60 {t : Int} (h0 : 0 < t) (h : t < 1152921504606846976) : t.natAbs.log2 < 9000 := by
  have h1 : t.natAbs < 2 ^ 60 := by
    have : (2 : Nat) ^ 60 = 1152921504606846976 := by decide
    omega
  exact Nat.lt_trans ((Nat.log2_lt (by omega)).mpr h1) (by decide)
abbrev s__law_take : Stmt := top 19
abbrev N__law_take : List Str := ["_law_box_here", "_law_top", "_law_found", "_law_once"]
abbrev P__law_take : List Str := ["_law_box_here", "_law_top"]
theorem sc__law_take : FnScope N__law_take P__law_take (defScope s__law_take) := ⟨rfl, rfl, rfl, by decide +kernel, rfl, by decide +kernel, by decide +kernel⟩
def spTake : Sp := fun vs H Q _ => ∃ (b : Addr) (top n : Int), vs = [.ref b, .int top] ∧ BoxAt H b n ∧ 0 < top ∧ top < 1152921504606846976 ∧ n < 1048576 ∧ ∀ r H', 0 ≤ r → r < top → Keep b H H' → BoxAt H' b (n + 1) → Q (.int r) H'
section
variable {P : Program} {w : World} {K : PySem.W.Frag} {mg : Str → Option Value} {base : Heap}
theorem ok_take {f : Addr} {fd : FuncData} {k : Nat} (F : Fun K "_law_take" "_law_take" s__law_take f fd) : FnOk P w K mg base CX0 (k + 1) f fd P__law_take spTake := by
  have nd := sc__law_take.nd
  refine F.ok sc__law_take (fun vs H Q E h => ?_) (fun cdv A outer s H vs Q E hr h => ?_)
  · obtain ⟨b, top, n, rfl, _⟩ := h
    rfl
  · obtain ⟨b, top, n, rfl, ⟨x, y, z, hb, hx, hy, hy2, hz, hzn⟩, ht, ht2, hn, q⟩ := h
    refine ⟨_, (pss_cons (ps_if (pt_cmpR op_gt (pe_ix (r := rIxL K) ix_list (pv 0) (pe_int) (fun _ _ => rfl)) (pe_int) (nomark _)) (pss_cons (ps_set (i := 2) nd rfl (Or.inl rfl) (pe_op op_mod (pe_ix (r := rIxL K) ix_list (pv 0) (pe_int) (fun _ _ => rfl)) (pv 1)))
      (pss_cons (ps_asg (pe_op op_fdivW (pe_ix (r := rIxL K) ix_list (pv 0) (pe_int) (fun _ _ => rfl)) (pv 1)) (pg_sub (pv 0) (pe_int) set_list))
      (pss_one (ps_ret (pv 2))))) pss_nil)
      (pss_cons (ps_asg (pe_op op_add (pe_ix (r := rIxL K) ix_list (pv 0) (pe_int) (fun _ _ => rfl)) (pe_int)) (pg_sub (pv 0) (pe_int) set_list))
      (pss_cons (ps_set (i := 3) nd rfl (Or.inl rfl) (pe_op op_mod (pe_op op_pow (pe_op op_add (pe_ix (r := rIxL K) ix_list (pv 0) (pe_int) (fun _ _ => rfl)) (pe_op op_mul (pe_int) (pe_ix (r := rIxL K) ix_list (pv 0) (pe_int) (fun _ _ => rfl)))) (pe_int)) (pe_int)))
      (pss_one (ps_ret (pe_op op_mod (pe_op op_fdivW (pe_op op_mod (pe_op op_add (pe_op op_mul (pv 3) (pe_op op_add (pe_op op_mod (pv 3) (pe_int)) (pe_int))) (pe_op op_mul (pe_ix (r := rIxL K) ix_list (pv 0) (pe_int) (fun _ _ => rfl)) (pe_int))) (pe_int)) (pe_int)) (pv 1))))))), ?_⟩
    have hL : SqL K H b [.int x, .int y, .int z] := SqL.of hb
    have cw : ∀ i : Int, CDivW i top := fun i => ⟨ht, log2_lt60 ht ht2⟩
    have cw6 : ∀ i : Int, CDivW i 64 := fun i => ⟨by decide, by decide⟩
    have cw1 := cw x
    walk_at "ev"
    refine ite2 (fun e => ?_) (fun e => ?_)
    · have e1 : 0 < x := of_decide_eq_true e
      walk_at "ev"
      exact q _ _ (Int.emod_nonneg _ (by omega)) (Int.emod_lt_of_pos _ ht) (keep_upd (Keep.refl _ _)) ⟨_, _, _, upd_same, Int.ediv_nonneg hx (by omega), hy, hy2, hz, by omega⟩
    · walk_at "ev"
      exact q _ _ (Int.emod_nonneg _ (by omega)) (Int.emod_lt_of_pos _ ht) (keep_upd (Keep.refl _ _)) ⟨_, _, _, upd_same, hx, hy, hy2, by omega, by omega⟩
end
abbrev s__law_box : Stmt := top 18
abbrev N__law_box : List Str := ["_law_script", "_law_k", "_law_cell"]
abbrev P__law_box : List Str := ["_law_script", "_law_k"]
theorem sc__law_box : FnScope N__law_box P__law_box (defScope s__law_box) := ⟨rfl, rfl, rfl, by decide +kernel, rfl, by decide +kernel, by decide +kernel⟩
def spBox (K : PySem.W.Frag) : Sp := fun vs H Q _ => ∃ (a : Addr) (ns : List Int) (k : Int), vs = [.ref a, .int k] ∧ SqL K H a (ns.map V.int) ∧ 0 ≤ k ∧ k ≤ 100000 ∧ ∀ p H', H p = none → Same H H' → BoxAt H' p 0 → Q (.ref p) H'
section
variable {P : Program} {w : World} {K : PySem.W.Frag} {mg : Str → Option Value} {base : Heap}
theorem ok_box {f : Addr} {fd : FuncData} {k : Nat} (F : Fun K "_law_box" "_law_box" s__law_box f fd) (T : Blt mg) : FnOk P w K mg base CX0 (k + 1) f fd P__law_box (spBox K) := by
  have nd := sc__law_box.nd
  refine F.ok sc__law_box (fun vs H Q E h => ?_) (fun cdv A outer s H vs Q E hr h => ?_)
  · obtain ⟨b, top, n, rfl, _⟩ := h
    rfl
  · obtain ⟨a, ns, k, rfl, hL, h0, h1, q⟩ := h
    refine ⟨_, (pss_cons (ps_set (i := 2) nd rfl (Or.inl rfl) (pe_int))
      (pss_cons (ps_if (pt_cmpR op_lt (pv 1) (pe_callB (r := rLenQ K) call_len_seq (by rfl) T.b_len (by decide +kernel) (pa_cons (pv 0) pa_nil)) (nomark _)) (pss_one (ps_set (i := 2) nd rfl (Or.inl rfl) (pe_ix (r := rIxL K) ix_list (pv 0) (pv 1) (fun _ _ => rfl)))) pss_nil)
      (pss_one (ps_ret (pe_lst (pa_cons (pe_op op_mul (pe_callB call_abs (by rfl) T.b_abs (by decide +kernel) (pa_cons (pv 2) pa_nil)) (pe_callTy call_int1 (by rfl) T.b_int (by decide +kernel) (pa_cons (pe_cmpR op_ge (pe_callB call_abs (by rfl) T.b_abs (by decide +kernel) (pa_cons (pv 2) pa_nil)) (pe_op op_pow (pe_int) (pe_int)) (nomark _)) pa_nil))) (pa_cons (pe_op op_add (pe_op op_add (pe_op op_mod (pv 2) (pe_int)) (pe_op op_mul (pe_int) (pv 1))) (pe_int)) (pa_cons (pe_int) pa_nil)))))))), ?_⟩
    have fin : ∀ c : Int, ∀ p, H p = none → Q (.ref p) (upd H p (.lst [.int ((if c < 0 then -c else c) * (if decide ((10 : Int) ^ 18 ≤ if c < 0 then -c else c) then 1 else 0)), .int (c % 2147483629 + 7919 * k + 11), .int 0])) := by
      intro c p hp
      refine q p _ hp (same_new hp) ⟨_, _, _, upd_same, ?_, ?_, ?_, by omega, by omega⟩
      · refine Int.mul_nonneg ?_ ?_
        · split <;> omega
        · split <;> omega
      · have := Int.emod_nonneg c (show (2147483629 : Int) ≠ 0 by decide)
        omega
      · have := Int.emod_lt_of_pos c (show (0 : Int) < 2147483629 by decide)
        omega
    walk_at "ev"
    refine ite2 (fun e => ?_) (fun e => ?_)
    · have e1 : k < ((ns.map V.int).length : Int) := of_decide_eq_true e
      rw [List.length_map] at e1
      obtain ⟨c, hc, hat⟩ := at_ints h0 e1
      walk_at "ev"
      exact fin c
    · walk_at "ev"
      exact fin 0
end
/-! ### kinds of things -/
inductive Kd (K : PySem.W.Frag) (H : Hp) : V → String → Prop
  | non : Kd K H .non "NoneType"
  | bl (b : Bool) : Kd K H (.bl b) "bool"
  | int (i : Int) : Kd K H (.int i) "int"
  | str (x : Str) : Kd K H (.str x) "str"
  | lst {a : Addr} {xs : List V} : SqL K H a xs → Kd K H (.ref a) "list"
  | tup {a : Addr} {xs : List V} : SqT K H a xs → Kd K H (.ref a) "tuple"
theorem Kd.ty {K : PySem.W.Frag} {H : Hp} {x : V} {t : String} (h : Kd K H x t) : TyX K H x (.type t) := by
  cases h with
  | non => exact .base .non
  | bl b => exact .base (.bl b)
  | int i => exact .base (.int i)
  | str x => exact .base (.str x)
  | lst h =>
    rcases h with (h | ⟨o, h⟩) | ⟨o, its, n, h1, h2, _⟩
    · exact .base (.lst h)
    · exact .base (.frz h)
    · exact .kList h1 h2
  | tup h =>
    rcases h with (h | ⟨o, h⟩) | ⟨o, its, n, h1, h2, _⟩
    · exact .base (.tup h)
    · exact .fTuple h
    · exact .kTuple h1 h2
theorem Kd.same {K : PySem.W.Frag} {H H' : Hp} {x : V} {t : String} (h : Kd K H x t) (e : Same H H') : Kd K H' x t := by
  cases h with
  | non => exact .non
  | bl b => exact .bl b
  | int i => exact .int i
  | str x => exact .str x
  | lst h => exact .lst (e.seq h)
  | tup h => exact .tup (same_t e h)
def tis (t c : String) : Bool := t == c || (t == "bool" && c == "int")
theorem Kd.kit {K : PySem.W.Frag} {H : Hp} {x : V} {t : String} (h : Kd K H x t) : PySem.W.kitOne K (.type t) (.type "int") = some (tis t "int") ∧ PySem.W.kitOne K (.type t) (.type "bool") = some (tis t "bool") ∧ PySem.W.kitOne K (.type t) (.type "str") = some (tis t "str") ∧ PySem.W.kitOne K (.type t) (.type "list") = some (tis t "list") ∧ PySem.W.kitOne K (.type t) (.type "tuple") = some (tis t "tuple") := by
  cases h <;> exact ⟨kit_ty (by decide +kernel), kit_ty (by decide +kernel), kit_ty (by decide +kernel), kit_ty (by decide +kernel), kit_ty (by decide +kernel)⟩
theorem kit_lt {K : PySem.W.Frag} {t : String} {a b : Bool} (h1 : PySem.W.kitOne K (.type t) (.type "list") = some a) (h2 : PySem.W.kitOne K (.type t) (.type "tuple") = some b) : PySem.W.kitAny K (.type t) [.type "list", .type "tuple"] = some (a || b) := by
  refine kitAny_cons h1 (fun e => kitAny_cons h2 (fun e2 => ?_) (fun e2 => ?_)) (fun e => by rw [e]; rfl)
  · rw [e, e2]
    exact kitAny_nil
  · rw [e, e2]
    rfl
/-! ### == of lists of ints -/
theorem dp_ints {K : PySem.W.Frag} {H : Hp} : ∀ ns : List Int, DpAll K H (ns.map V.int) (ns.map PyData.int)
  | [] => .nil
  | n :: r => .cons (.int n) (dp_ints r)
theorem eqv_ints : ∀ ns ms : List Int, PyData.eqvAll (ns.map PyData.int) (ms.map PyData.int) = decide (ns = ms)
  | [], [] => by simp [PyData.eqvAll]
  | [], _ :: _ => by simp [PyData.eqvAll]
  | _ :: _, [] => by simp [PyData.eqvAll]
  | a :: r, b :: t => by
    simp only [List.map_cons, PyData.eqvAll, PyData.eqv, eqv_ints r t]
    by_cases h : a = b <;> by_cases h' : r = t <;> simp [h, h']
theorem eqd_ints {K : PySem.W.Frag} {H : Hp} {a b : Addr} {ns ms : List Int} {Q : VK} (ha : SqL K H a (ns.map V.int)) (hb : SqL K H b (ms.map V.int)) (q : Q (.bl (decide (ns = ms))) H) : rEqD K (.ref a) (.ref b) H Q := by
  refine ⟨_, _, .lst ha (dp_ints ns), .lst hb (dp_ints ms), PySem.W.ke_shaped_ints ns, PySem.W.ke_shaped_ints ms, ?_⟩
  have e : PyData.eqv (.list (ns.map PyData.int)) (.list (ms.map PyData.int)) = decide (ns = ms) := by
    rw [PyData.eqv]
    exact eqv_ints ns ms
  rw [e]
  exact q
/-! ### the law's own comparing, of like things -/
def Fit : Nat → PyData → Prop
  | 0, .list _ => False
  | 0, .tuple _ => False
  | n + 1, .list ds => ds.length ≤ 4000 ∧ ∀ e ∈ ds, Fit n e
  | n + 1, .tuple ds => ds.length ≤ 4000 ∧ ∀ e ∈ ds, Fit n e
  | _, .dict _ => False
  | _, _ => True
theorem dpall_len {K : PySem.W.Frag} {H : Hp} : ∀ {xs : List V} {ds : List PyData}, DpAll K H xs ds → xs.length = ds.length
  | _, _, .nil => rfl
  | _, _, .cons _ h => by rw [List.length_cons, List.length_cons, dpall_len h]
theorem dpall_get {K : PySem.W.Frag} {H : Hp} : ∀ {xs : List V} {ds : List PyData} {i : Nat} {x : V}, DpAll K H xs ds → xs[i]? = some x → ∃ d, ds[i]? = some d ∧ Dp K H x d
  | _, _, _, _, .nil, h => by simp at h
  | _, _, 0, _, .cons (d := d) h1 h2, h => ⟨d, rfl, by
      have e := Option.some.inj h
      rw [← e]
      exact h1⟩
  | _, _, i + 1, _, .cons h1 h2, h => dpall_get (i := i) h2 h
mutual
theorem dp_same {K : PySem.W.Frag} {H H' : Hp} (e : Same H H') : ∀ {x : V} {d : PyData}, Dp K H x d → Dp K H' x d
  | _, _, .non => .non
  | _, _, .bl b => .bl b
  | _, _, .int i => .int i
  | _, _, .str x => .str x
  | _, _, .lst h a => .lst (e.seq h) (dpall_same e a)
  | _, _, .tup h a => .tup (same_t e h) (dpall_same e a)
theorem dpall_same {K : PySem.W.Frag} {H H' : Hp} (e : Same H H') : ∀ {xs : List V} {ds : List PyData}, DpAll K H xs ds → DpAll K H' xs ds
  | _, _, .nil => .nil
  | _, _, .cons h a => .cons (dp_same e h) (dpall_same e a)
end
def spSame (K : PySem.W.Frag) (n : Nat) : Sp := fun vs H Q _ => ∃ (x y : V) (d : PyData), vs = [x, y] ∧ Dp K H x d ∧ Dp K H y d ∧ Fit n d ∧ ∀ H', Same H H' → Q (.bl true) H'
/-- a comprehension over pairs -/
theorem lc_pairs {J : It} {xs ys : List V} {g : TG} {tt : TT} {te : TE} {vs : List Nat} {σ : L2.St} {H1 : Hp} {D : Addr} {Qd : Hp → Prop} (Pv : Nat → Hp → Prop) (h0 : Pv 0 (upd H1 D (.lst [])))
    (hgo : ∀ i H, Pv i H → i < xs.length → J.go i H) (hy : ∀ i H v H', Pv i H → i < xs.length → J.yld i H v H' → ∃ T x y, v = .ref T ∧ H T = none ∧ H' = upd H T (.tup [x, y]) ∧ xs[i]? = some x ∧ ys[i]? = some y)
    (hst : ∀ H, Pv xs.length H → J.stop xs.length H)
    (hs : ∀ i x y T H H', xs[i]? = some x → ys[i]? = some y → Pv i H → H T = none → H' = upd H T (.tup [x, y]) → g (.ref T) (wipe σ vs) H' fun σ2 H2 => wipe σ2 vs = wipe σ vs ∧ tt σ2 H2 fun b H3 =>
      if b = true then te σ2 H3 fun y H4 => ∃ acc, H4 D = some (.lst acc) ∧ acc.length < sizeLine ∧ Pv (i + 1) (upd H4 D (.lst (acc ++ [y]))) else Pv (i + 1) H3) (hd : ∀ H, Pv xs.length H → Qd H) :
    ∃ W : Nat → Nat → Hp → Prop, (∃ m, W 0 m (upd H1 D (.lst []))) ∧ ∀ i m H, W i m H →
      (J.stop i H ∧ Qd H) ∨ (J.go i H ∧ ∃ Nx : Hp → Prop, (∀ H', Nx H' → ∃ m', m' < m ∧ W (i + 1) m' H') ∧ ∀ x H', J.yld i H x H' → g x (wipe σ vs) H' fun σ2 H2 => wipe σ2 vs = wipe σ vs ∧ tt σ2 H2 fun b H3 =>
        if b = true then te σ2 H3 fun y H4 => ∃ acc, H4 D = some (.lst acc) ∧ acc.length < sizeLine ∧ Nx (upd H4 D (.lst (acc ++ [y]))) else Nx H3) := by
  refine ⟨fun i m H => m = xs.length - i ∧ i ≤ xs.length ∧ Pv i H, ⟨xs.length, by simp, Nat.zero_le _, h0⟩, ?_⟩
  rintro i m H ⟨rfl, hi, p⟩
  by_cases hlt : i < xs.length
  · refine .inr ⟨hgo i H p hlt, Pv (i + 1), fun H' p' => ⟨xs.length - (i + 1), by omega, rfl, hlt, p'⟩, fun v H' yl => ?_⟩
    obtain ⟨T, x, y, rfl, hT, e, f1, f2⟩ := hy i H v H' p hlt yl
    exact hs i x y T H H' f1 f2 p hT e
  · have e : i = xs.length := by omega
    subst e
    exact .inl ⟨hst H p, hd H p⟩
theorem q_dec {Q : VK} {x : V} {H : Hp} (h : Q (.bl true) H) : Q (.bl (decide (x = x))) H := by
  rw [decide_eq_true rfl]
  exact h
theorem all_true : ∀ n : Nat, (List.replicate n true).all id = true
  | 0 => rfl
  | n + 1 => by
    rw [List.replicate_succ, List.all_cons, all_true n]
    rfl
/-! ### a list or a tuple -/
section
open PySem.Spec PyProof.Rows
variable {X : Cx}
def rIxQ (K : PySem.W.Frag) : R2 := fun x y H Q => ∃ p xs i v, x = .ref p ∧ y = .int i ∧ (SqL K H p xs ∨ SqT K H p xs) ∧ atI xs i = some v ∧ Q v H
theorem ix_seq : IxR X (rIxQ X.K) := by
  intro value slice pins s σ H x y v u Q I rx ry h hs
  obtain ⟨p, xs, i, z, e1, e2, hq | hq, he, q⟩ := h
  · exact ix_list value slice pins s σ H x y v u Q I rx ry ⟨p, xs, i, z, e1, e2, hq, he, q⟩ hs
  · exact ix_tup value slice pins s σ H x y v u Q I rx ry ⟨p, xs, i, z, e1, e2, hq, he, q⟩ hs
end
theorem sq_same {K : PySem.W.Frag} {H H' : Hp} {a : Addr} {xs : List V} (e : Same H H') (h : SqL K H a xs ∨ SqT K H a xs) : SqL K H' a xs ∨ SqT K H' a xs := by
  rcases h with h | h
  · exact .inl (e.seq h)
  · exact .inr (same_t e h)
/-! ### the refusals' own making -/
abbrev s_init : Stmt := inClass (top 1) 0
abbrev N_init : List Str := ["self", "what"]
theorem sc_init : FnScope N_init N_init (defScope s_init) := ⟨rfl, rfl, rfl, by decide +kernel, rfl, by decide +kernel, by decide +kernel⟩
def spInit (K : PySem.W.Frag) : Sp := fun vs H Q _ => ∃ (a C : Addr) (v : V), vs = [.ref a, v] ∧ OexC K C ∧ PySem.W.findIn K (.ref C) "what" = some none ∧ H a = some (exo a C none) ∧
  ∀ dx, H dx = none → dx ≠ a → Q .non (upd (upd H dx (exd dx [(("what" : Str), v)])) a (exo a C (some dx)))
section
variable {P : Program} {w : World} {K : PySem.W.Frag} {mg : Str → Option Value} {base : Heap}
theorem ok_init {f : Addr} {fd : FuncData} {k : Nat} (F : Fun K "__init__" "TurnError.__init__" s_init f fd) : FnOk P w K mg base CX0 (k + 1) f fd N_init (spInit K) := by
  refine F.ok sc_init (fun vs H Q E h => ?_) (fun cdv A outer s H vs Q E hr h => ?_)
  · obtain ⟨a, C, v, rfl, _⟩ := h
    rfl
  · obtain ⟨a, C, v, rfl, T, nw, ha, q⟩ := h
    refine ⟨_, pss_one (ps_ost (pv 0) (pv 1)), ?_⟩
    exact ⟨_, rfl, _, rfl, a, C, rfl, T, nw, .inl ⟨ha, q⟩⟩
end
/-- C(v), made to be raised -/
theorem mk_what {K : PySem.W.Frag} {C : Addr} {v : V} {Q : XK} {H1 : Hp} (E : ExK K C) (h : ∀ d H', H1 d = none → Same H1 H' → H' d = some (.xd [(("what" : Str), v)]) → Q (.ref C) (some d) H') : ∀ a, H1 a = none → spInit K (.ref a :: ([v] ++ [])) (upd H1 a (exo a C none))
    (fun v' H2 => v' = .non ∧ ∃ (d : Addr) (fs : List (Str × V)), H2 a = some (exo a C (some d)) ∧ H2 d = some (exd d fs) ∧ H1 d = none ∧ Q (.ref C) (some d) (upd (del H2 a) d (.xd fs))) (fun _ _ _ => False) := by
  intro a ha
  refine ⟨a, C, v, rfl, E.oex, E.nw, upd_same, fun dx hd ne => ?_⟩
  rw [upd_ne ne] at hd
  refine ⟨rfl, dx, _, upd_same, ?_, hd, h dx _ hd (fun b o e => ?_) upd_same⟩
  · rw [upd_ne ne, upd_same]
  · have n1 := ne_of_none e hd
    have n2 := ne_of_none e ha
    rw [upd_ne n1, del_ne n2, upd_ne n2, upd_ne n1, upd_ne n2]
    exact e
/-- what is told of the class of a refusal, under TurnError at CT -/
structure Ref (K : PySem.W.Frag) (CT C fI : Addr) : Prop where
  ek : ExK K C
  ini : PySem.W.findIn K (.ref C) "__init__" = some (some (.ref fI))
  em : PySem.W.exmOne K (.ref C) (.ref CT) = some true
  kv : PySem.W.kitOne K (.ref C) (.type "ValueError") = some true
  kt : PySem.W.kitOne K (.ref C) (.ref CT) = some true
abbrev s__law_pick : Stmt := top 20
abbrev N__law_pick : List Str := ["_law_box_here", "_law_things_here"]
abbrev P__law_pick : List Str := ["_law_box_here", "_law_things_here"]
theorem sc__law_pick : FnScope N__law_pick P__law_pick (defScope s__law_pick) := ⟨rfl, rfl, rfl, by decide +kernel, rfl, by decide +kernel, by decide +kernel⟩
def spPick (K : PySem.W.Frag) : Sp := fun vs H Q _ => ∃ (b a : Addr) (xs : List V) (n : Int), vs = [.ref b, .ref a] ∧ BoxAt H b n ∧ SqL K H a xs ∧ a ≠ b ∧ 0 < (xs.length : Int) ∧ (xs.length : Int) < 1048576 ∧ n < 1048576 ∧ ∀ v H', v ∈ xs → Keep b H H' → BoxAt H' b (n + 1) → Q v H'
section
variable {P : Program} {w : World} {K : PySem.W.Frag} {mg : Str → Option Value} {base : Heap}
theorem ok_pick {f fT : Addr} {fd fdT : FuncData} {k : Nat} (F : Fun K "_law_pick" "_law_pick" s__law_pick f fd) (T : Blt mg) (D__law_take : Df K mg "_law_take" s__law_take P__law_take fT fdT) : FnOk P w K mg base CX0 (k + 2) f fd P__law_pick (spPick K) := by
  have G__law_take : FnOk P w K mg base CX0 (k + 1) fT fdT P__law_take spTake := ok_take D__law_take.F
  have nd := sc__law_pick.nd
  refine F.ok sc__law_pick (fun vs H Q E h => ?_) (fun cdv A outer s H vs Q E hr h => ?_)
  · obtain ⟨b, a, xs, n, rfl, _⟩ := h
    rfl
  · obtain ⟨b, a, xs, n, rfl, hb, hL, hne, h0, h1, hn, q⟩ := h
    refine ⟨_, (pss_one (ps_ret (pe_ix (r := rIxL K) ix_list (pv 1) (pe_call G__law_take (hr.mono (by omega)) (by rfl) D__law_take.g D__law_take.F.kp D__law_take.b .nil pass0 (pa_cons (pv 0) (pa_cons (pe_callB (r := rLenQ K) call_len_seq (by rfl) T.b_len (by decide +kernel) (pa_cons (pv 1) pa_nil)) pa_nil))) (fun _ _ => rfl)))), ?_⟩
    walk_at "ev"
    intro r H' hr0 hr1 hk hb'
    obtain ⟨v, hv, hat⟩ := at_some hr0 hr1
    have hL' := hk.seq hne hL
    walk_at "ev"
    exact q _ _ hv hk hb'
end
theorem keep_fresh {b D : Addr} {H H' : Hp} {o : HO} (h : Keep b H H') (n : H D = none) : Keep b H (upd H' D o) := fun a u na e => by
  rw [upd_ne (ne_of_none e n)]
  exact h a u na e
theorem BoxAt.upd {H : Hp} {b D : Addr} {n : Int} {o : HO} (h : BoxAt H b n) (e : D ≠ b) : BoxAt (L2.upd H D o) b n := by
  obtain ⟨x, y, z, a1, a2⟩ := h
  exact ⟨x, y, z, by rw [upd_ne e.symm]; exact a1, a2⟩
theorem dpl {K : PySem.W.Frag} {H : Hp} {a : Addr} (ns : List Int) (h : SqL K H a (ns.map V.int)) : Dp K H (.ref a) (.list (ns.map PyData.int)) := .lst h (dp_ints ns)
theorem fitl (ns : List Int) (h : ns.length ≤ 4000) : Fit 1 (.list (ns.map PyData.int)) := by
  refine ⟨by rw [List.length_map]; exact h, fun e he => ?_⟩
  obtain ⟨c, _, rfl⟩ := List.mem_map.mp he
  exact True.intro
theorem fit_ni {x : Str} {a : Int} : Fit 1 (.tuple [.str x, .int a]) := by
  refine ⟨by simp, fun e he => ?_⟩
  simp only [List.mem_cons, List.not_mem_nil, or_false] at he
  rcases he with h | h <;> rw [h] <;> exact True.intro
/-! ### a loop over enumerate -/
theorem for_enumL {K : PySem.W.Frag} {a : Addr} {xs : List V} {g : TG} {tb : TS} {D : Ends} {σ : L2.St} {H : Hp} (Pv : Nat → L2.St → Hp → Prop) (h0 : Pv 0 σ H) (hq : ∀ i σ H, Pv i σ H → SqL K H a xs)
    (hs : ∀ (i : Nat) (x : V) (T : Addr) (σ : L2.St) (H : Hp), xs[i]? = some x → Pv i σ H → H T = none → g (.ref T) σ (upd H T (.tup [.int (i : Nat), x])) fun σ2 H2 => tb { D with nx := Pv (i + 1), ct := Pv (i + 1), bk := D.nx } σ2 H2) (hd : ∀ σ H, Pv xs.length σ H → D.nx σ H) :
    ∃ W : Nat → Nat → L2.St → Hp → Prop, (∃ m, W 0 m σ H) ∧ ∀ i m σ H, W i m σ H →
      ((Ite K a).stop i H ∧ D.nx σ H) ∨ ((Ite K a).go i H ∧ ∃ N : L2.St → Hp → Prop, (∀ σ' H', N σ' H' → ∃ m', m' < m ∧ W (i + 1) m' σ' H') ∧ ∀ v H', (Ite K a).yld i H v H' → g v σ H' fun σ2 H2 => tb { D with nx := N, ct := N, bk := D.nx } σ2 H2) := by
  refine ⟨fun i m σ H => m = xs.length - i ∧ i ≤ xs.length ∧ Pv i σ H, ⟨xs.length, rfl, Nat.zero_le _, h0⟩, ?_⟩
  rintro i m σ H ⟨rfl, hi, p⟩
  have q := hq i σ H p
  by_cases hlt : i < xs.length
  · refine .inr ⟨⟨xs, xs[i], q, List.getElem?_eq_getElem hlt⟩, Pv (i + 1), fun σ' H' p' => ⟨xs.length - (i + 1), by omega, rfl, hlt, p'⟩, fun v H' y => ?_⟩
    obtain ⟨T, x', rfl, hT, rfl, f1⟩ := y
    exact hs i x' T σ H (f1 xs q) p hT
  · have e : i = xs.length := by omega
    subst e
    exact .inl ⟨⟨xs, q, Nat.le_refl _⟩, hd σ H p⟩
/-! ### enumerate of a tuple -/
section
open PySem.Spec PyProof.Rows
abbrev tIt (t : Addr) : Obj := { cls := .type "tuple_iterator", data := .fields #[.ref t, .int 0 0] }
abbrev tEn (i : Addr) : Obj := { cls := .type "enumerate", data := .fields #[.none, .bool false, .ref i, rawInt 0, .none, .none] }
theorem meets_enumT (l : Addr) (items : Array Value) (n : Nat) (dct : Option Addr) (sl : Array (Option Value)) :
    Meets (Builtin.«enumerate.__new__» ⟨[.type "enumerate", .ref l], []⟩) (fun _ R s => s.heap.get? l = some { cls := .type "tuple", dict := dct, data := .seq items n, slots := sl } ∧
      R (.ok (.ret (.ref (s.heap.push (tIt l)).objs.size))) { s with heap := (s.heap.push (tIt l)).push (tEn s.heap.objs.size) }) :=
  .of_wp fun prog w A R s h => by
    obtain ⟨hp, g, d, tk, os⟩ := s
    obtain ⟨hl, h⟩ := h
    have hsub := sub_enumerate
    have hT : Heap.IsTuple (Shared.heap ⟨hp, g, d, tk, os⟩) l items := ⟨_, hl, rfl, n, rfl⟩
    have q1 : ∀ {A' : Around} {E : Value → Shared → Prop} {Q : Value → Shared → Prop}, Q (.ref hp.objs.size) ⟨hp.push (tIt l), g, d, tk, os⟩ → wpAny (model prog w) A' (pyIter (.ref l)) Q E ⟨hp, g, d, tk, os⟩ := fun q => wpAny_pyIter_tuple hT q
    wp_walk using AutoSeq1.wpAny_loadPart' hl
    refine wpAny_stack_any fun st => wpAny_pure ?_
    split
    · rename_i c _ _ _ _ _
      cases (c == Value.type "enumerate")
      · wp_walk using AutoSeq1.wpAny_loadPart' hl, q1
        exact ⟨_, rfl, h⟩
      · wp_walk using AutoSeq1.wpAny_loadPart' hl, q1
        exact ⟨_, rfl, h⟩
    · wp_walk using AutoSeq1.wpAny_loadPart' hl, q1
      exact ⟨_, rfl, h⟩
theorem call_enumT {prog : Program} {w : World} {A : Around} {E : Value → Shared → Prop} {s : Shared} {l : Addr} {items : Array Value} {Q : Value → Shared → Prop} (hL : s.heap.IsTuple l items)
    (h : ∀ h', IsEnum h' (s.heap.objs.size + 1) s.heap.objs.size 0 .none → h'.IsTupleIter s.heap.objs.size l 0 → (∀ b o, s.heap.get? b = some o → h'.get? b = some o) → Q (.ref (s.heap.objs.size + 1)) { s with heap := h' }) :
    wpAny (model prog w) A (call (.type "enumerate") [.ref l]) Q E s := by
  obtain ⟨⟨c, dct, dt, sl⟩, hl, hc, n, hd⟩ := hL
  replace hc : c = .type "tuple" := hc
  replace hd : dt = .seq items n := hd
  subst hc hd
  refine callType_new F.called_enumerate (by decide) (F.typeCall_enumerate_1 _) (F.newCall_enumerate_1 _) (fun obj => F.args_object_init_2 obj _) F.entry_enumerate_new (meets_enumT l items n dct sl) ⟨hl, ?_⟩
  have hz : (s.heap.push (tIt l)).objs.size = s.heap.objs.size + 1 := Heap.size_push ..
  show _ ∧ _
  rw [hz]
  have he : IsEnum ((s.heap.push (tIt l)).push (tEn s.heap.objs.size)) (s.heap.objs.size + 1) s.heap.objs.size 0 .none := by
    have k := Heap.get?_push_size (s.heap.push (tIt l)) (o := tEn s.heap.objs.size) rfl
    rw [hz] at k
    exact k
  exact ⟨⟨_, he, rfl⟩, h _ he ⟨_, Heap.get?_push_of_some _ (Heap.get?_push_size _ rfl), rfl, rfl⟩ fun b o x => Heap.get?_push_of_some _ (Heap.get?_push_of_some _ x)⟩
/-- the tuple at a, each item in a new pair -/
def IteT (K : PySem.W.Frag) (a : Addr) : It :=
  ⟨fun i H => ∃ (xs : List V) (x : V), SqT K H a xs ∧ xs[i]? = some x, fun i H v H' => ∃ T x, v = .ref T ∧ H T = none ∧ H' = upd H T (.tup [.int (i : Nat), x]) ∧ ∀ xs, SqT K H a xs → xs[i]? = some x, fun i H => ∃ xs : List V, SqT K H a xs ∧ xs.length = i⟩
theorem turn_enumT {P : Program} {w : World} {K : PySem.W.Frag} {elts : List Expr} {kk : Nat} {tpos : Pos} (a e it : Addr) :
    Turn P w K (.Tuple elts kk tpos) (IteT K a) [e, it] e (fun i h => (∃ old, IsEnum h e it ((i : Nat) : Int) old) ∧ h.IsTupleIter it a i ∧ e ≠ it ∧ a ≠ it ∧ a ≠ e) where
  mem := by simp
  obj := fun i h st b hb => by
    obtain ⟨⟨old, he⟩, ⟨o, ho, hc, hd⟩, _⟩ := st
    have z : b = e ∨ b = it := by simpa using hb
    rcases z with z | z
    · rw [z]
      exact ⟨_, he, fun v q => nomatch q⟩
    · rw [z]
      exact ⟨o, ho, fun v q => by rw [hd] at q; cases q⟩
  keep := fun i h h' st k => by
    obtain ⟨⟨old, he⟩, hi, hne⟩ := st
    exact ⟨⟨old, k e (by simp) _ he⟩, hi.at fun o q => k it (by simp) o q, hne⟩
  item := by
    intro X hP hw hK hc i pins s σ H E I hf st hg
    subst hP hw hK
    obtain ⟨⟨old, he⟩, hit, hne, hna, hnb⟩ := st
    obtain ⟨xs, x, hq, hx⟩ := hg
    obtain ⟨its, rv, p, hz⟩ := I.tuple hq
    obtain ⟨u, hu, ru⟩ := rv.get hx
    have hel : e < s.heap.objs.size := Heap.lt_size he
    have hil : it < s.heap.objs.size := by
      obtain ⟨_, q, _⟩ := hit
      exact Heap.lt_size q
    have hlt : i < its.toArray.size := by
      rw [List.size_toArray]
      exact (List.getElem?_eq_some_iff.mp hu).1
    have dr : Draws X.prog X.w X.A.in1 it [it, a] its.toArray.size (fun i v => its.toArray[i]? = some v) (fun i h => h.IsTupleIter it a i ∧ h.IsTuple a its.toArray) := Draws.tuple (A := X.A.in1) (I.ok.hd hc) it a hna its.toArray
    refine wpAny_pyNext_enum_itemD dr he ⟨hit, p⟩ hlt hne (by simp [hne, hnb.symm]) fun y h' tk hy ho hst hT hsz hk => ?_
    have ey : y = u := by
      have h1 : its.toArray[i]? = some u := by simpa using hu
      rw [h1] at hy
      exact (Option.some.inj hy).symm
    subst ey
    refine ⟨_, rfl, wpAny_letOwnedTupleGo_enum (s := { s with heap := h', toks := tk + 1 }) ho fun h'' he' sb => ?_⟩
    have hT2 := (sb.2 _ (Nat.ne_of_gt hel)).trans hT
    have new : ObjOk X.prog X.w (upd H s.heap.objs.size (.tup [.int (i : Nat), x])) h'' s.heap.objs.size (.tup [.int (i : Nat), x]) := ⟨by show 2 ≤ sizeLine; decide, [.int i tk, y], .cons ⟨_, rfl⟩ (.cons ru .nil), ⟨_, hT2, rfl, _, rfl⟩⟩
    have I1 : Inv X pins σ (upd H s.heap.objs.size (.tup [.int (i : Nat), x])) { s with heap := h'', toks := tk + 1 } :=
      I.turnedNew (ch := [e, it]) (fun b ob hb q => (sb.2 b (fun z => hb (by simp [z]))).trans (hk b ob (fun z => hb (by simp [z])) (fun z => hb (by simp [z])) q)) hf (Nat.le_refl _) new
    refine ⟨.ref s.heap.objs.size, _, I1, rfl, ⟨_, x, rfl, I.hok.fresh (Nat.le_refl _), rfl, fun ys hy => by rw [I.tuple_inj hy hq]; exact hx⟩, ⟨⟨y, ?_⟩, hst.1.at fun o q => (sb.2 it hne.symm).trans q, hne, hna, hnb⟩, fun b hb => ?_⟩
    · rw [show ((i + 1 : Nat) : Int) = (i : Int) + 1 by omega]
      exact he'
    · have hb' : b < s.heap.objs.size := by
        have z : b = e ∨ b = it := by simpa using hb
        rcases z with z | z <;> rw [z]
        · exact hel
        · exact hil
      rw [upd_ne (Nat.ne_of_lt hb')]
      exact (hf b hb).1
  done := by
    intro X hP hw hK hc i pins s σ H E I hf st hg
    subst hP hw hK
    obtain ⟨⟨old, he⟩, hit, hne, hna, hnb⟩ := st
    obtain ⟨xs, hq, hx⟩ := hg
    obtain ⟨its, rv, p, hz⟩ := I.tuple hq
    obtain ⟨f0, f1, f2, f3, f4, f5⟩ := hf it (by simp)
    have hl : its.toArray.size = i := by
      rw [List.size_toArray, ← rv.length]
      exact hx
    have dr : Draws X.prog X.w X.A.in1 it [it, a] its.toArray.size (fun i v => its.toArray[i]? = some v) (fun i h => h.IsTupleIter it a i ∧ h.IsTuple a its.toArray) := Draws.tuple (A := X.A.in1) (I.ok.hd hc) it a hna its.toArray
    exact wpAny_pyNext_enum_endD dr he (by rw [hl]; exact ⟨hit, p⟩) fun h' eb => ⟨rfl, I.turned (t' := s.toks) (fun b o hb q => eb b o hb q) f0 f1 f3 f4 f5⟩
  self := fun A i s Q E st h => by
    obtain ⟨⟨_, he⟩, _⟩ := st
    exact wpAny_pyIter_enum he h
def iEnumT (K : PySem.W.Frag) (ta : TA) : TI := fun σ H R => ta σ H fun vs H1 => ∃ a xs, vs = [.ref a] ∧ SqT K H1 a xs ∧ R (IteT K a) H1
theorem pi_enumT {X : Cx} {e : Expr} {ta : TA} {p pos tpos : Pos} {elts : List Expr} {kk : Nat} (hg : Gl X "enumerate") (hm : X.mg "enumerate" = none) (ha : PA X [e] ta) (hs : starEach [e] X.env = [(false, eval e X.env)] := by rfl) :
    PI X (.Tuple elts kk tpos) (.Call (.Name "enumerate" p) [e] [] pos) (iEnumT X.K ta) := by
  refine ⟨fun pins s σ H R I h => ?_⟩
  refine Call_ (ld_blt I hg hm boot_enumerate (PyProof.Rows.callWith_type1 (thn (ha.run pos pins s σ H _ I h) fun us s1 ⟨vs, H1, I1, r1, q1⟩ => ?_) hs rfl))
  obtain ⟨a, xs, ex, hq, q⟩ := q1
  subst ex
  obtain ⟨u, rfl, ru⟩ := r1.one
  cases ru
  obtain ⟨its, rv, p', hz⟩ := I1.tuple hq
  have hal : a < s1.heap.objs.size := by
    obtain ⟨o, ho, _⟩ := p'
    exact Heap.lt_size ho
  refine call_enumT p' fun h' he hit hk => wpAny_pyIter_enum he ?_
  have I2 : Inv X pins σ H1 { s1 with heap := h' } := I1.kept (t' := s1.toks) hk
  refine ⟨s1.heap.objs.size + 1, [s1.heap.objs.size + 1, s1.heap.objs.size], _, _, H1, rfl, I2, turn_enumT a (s1.heap.objs.size + 1) s1.heap.objs.size, ⟨⟨.none, he⟩, hit, Nat.succ_ne_self _, Nat.ne_of_lt hal, Nat.ne_of_lt (Nat.lt_succ_of_lt hal)⟩, fun b hb => ?_, q⟩
  have hle : s1.heap.objs.size ≤ b := by
    have z : b = s1.heap.objs.size + 1 ∨ b = s1.heap.objs.size := by simpa using hb
    rcases z with z | z <;> rw [z]
    · exact Nat.le_add_right _ _
    · exact Nat.le_refl _
  exact I1.fpOk hle (I1.hok.fresh hle)
end
theorem for_enumT {K : PySem.W.Frag} {a : Addr} {xs : List V} {g : TG} {tb : TS} {D : Ends} {σ : L2.St} {H : Hp} (Pv : Nat → L2.St → Hp → Prop) (h0 : Pv 0 σ H) (hq : ∀ i σ H, Pv i σ H → SqT K H a xs)
    (hs : ∀ (i : Nat) (x : V) (T : Addr) (σ : L2.St) (H : Hp), xs[i]? = some x → Pv i σ H → H T = none → g (.ref T) σ (upd H T (.tup [.int (i : Nat), x])) fun σ2 H2 => tb { D with nx := Pv (i + 1), ct := Pv (i + 1), bk := D.nx } σ2 H2) (hd : ∀ σ H, Pv xs.length σ H → D.nx σ H) :
    ∃ W : Nat → Nat → L2.St → Hp → Prop, (∃ m, W 0 m σ H) ∧ ∀ i m σ H, W i m σ H →
      ((IteT K a).stop i H ∧ D.nx σ H) ∨ ((IteT K a).go i H ∧ ∃ N : L2.St → Hp → Prop, (∀ σ' H', N σ' H' → ∃ m', m' < m ∧ W (i + 1) m' σ' H') ∧ ∀ v H', (IteT K a).yld i H v H' → g v σ H' fun σ2 H2 => tb { D with nx := N, ct := N, bk := D.nx } σ2 H2) := by
  refine ⟨fun i m σ H => m = xs.length - i ∧ i ≤ xs.length ∧ Pv i σ H, ⟨xs.length, rfl, Nat.zero_le _, h0⟩, ?_⟩
  rintro i m σ H ⟨rfl, hi, p⟩
  have q := hq i σ H p
  by_cases hlt : i < xs.length
  · refine .inr ⟨⟨xs, xs[i], q, List.getElem?_eq_getElem hlt⟩, Pv (i + 1), fun σ' H' p' => ⟨xs.length - (i + 1), by omega, rfl, hlt, p'⟩, fun v H' y => ?_⟩
    obtain ⟨T, x', rfl, hT, rfl, f1⟩ := y
    exact hs i x' T σ H (f1 xs q) p hT
  · have e : i = xs.length := by omega
    subst e
    exact .inl ⟨⟨xs, q, rfl⟩, hd σ H p⟩
/-! ### repr of lists and tuples in one another, whatever repr is under way around them -/
section
open PySem.Spec PyProof.Rows
/-- things with their addresses -/
inductive AT where
  | leaf (d : PyData)
  | lst (a : Addr) (l : List AT)
  | tup (a : Addr) (l : List AT)
mutual
inductive Ap (K : PySem.W.Frag) (H : Hp) : V → AT → Prop
  | non : Ap K H .non (.leaf .none)
  | bl (b : Bool) : Ap K H (.bl b) (.leaf (.bool b))
  | int (i : Int) : Ap K H (.int i) (.leaf (.int i))
  | str (x : Str) : Ap K H (.str x) (.leaf (.str x))
  | lst {a : Addr} {xs : List V} {l : List AT} : SqL K H a xs → ApAll K H xs l → Ap K H (.ref a) (.lst a l)
  | tup {a : Addr} {xs : List V} {l : List AT} : SqT K H a xs → ApAll K H xs l → Ap K H (.ref a) (.tup a l)
inductive ApAll (K : PySem.W.Frag) (H : Hp) : List V → List AT → Prop
  | nil : ApAll K H [] []
  | cons {v : V} {vs : List V} {t : AT} {l : List AT} : Ap K H v t → ApAll K H vs l → ApAll K H (v :: vs) (t :: l)
end
/-- list.__repr__'s loop over this very list is under way -/
def loopF (self : Value) : Code × Pos → Bool := fun
  | (.builtin "list.__repr__.loop" ⟨v :: _, _⟩, _) => Builtin.List.listSameRef v self
  | _ => false
theorem loopF_pos (self : Value) (c : Code) (p : Pos) : loopF self (c, p) = loopF self (c, default) := by
  unfold loopF
  split
  · next v r k q heq =>
    cases heq
    rfl
  · next h =>
    split
    · next v r k q heq =>
      cases heq
      exact absurd rfl (h v r k p)
    · rfl
theorem loopF_off (self : Value) (c : Code) (p : Pos) (h : c.isGuard = false) : loopF self (c, p) = false := by
  unfold loopF
  split
  · next v r k q heq =>
    cases heq
    simp [Code.isGuard, guardIds] at h
  · rfl
def blkL (g : List Code) (b : Addr) : Bool := g.any fun c => loopF (.ref b) (c, default)
def blkT (g : List Code) (b : Addr) : Bool := g.any fun c => tupGuardF (.ref b) (c, default)
mutual
def AT.data : AT → PyData
  | .leaf d => d
  | .lst _ l => .list (AT.dataAll l)
  | .tup _ l => .tuple (AT.dataAll l)
def AT.dataAll : List AT → List PyData
  | [] => []
  | t :: l => AT.data t :: AT.dataAll l
end
mutual
def AT.txt (g : List Code) : AT → Str
  | .leaf d => d.shown
  | .lst _ [] => "[]"
  | .lst a (t :: l) => if blkL g a then "[...]" else listText (AT.txt g t :: AT.txtAll g l)
  | .tup a l => if blkT g a then "(...)" else tupleText (AT.txtAll g l)
def AT.txtAll (g : List Code) : List AT → List Str
  | [] => []
  | t :: l => AT.txt g t :: AT.txtAll g l
end
/-! how long it may come to be -/
mutual
def AT.wid : AT → Nat
  | .leaf d => d.shown.length
  | .lst _ l => 6 + AT.widAll l
  | .tup _ l => 6 + AT.widAll l
def AT.widAll : List AT → Nat
  | [] => 0
  | t :: l => AT.wid t + 2 + AT.widAll l
end
theorem txtAll_sum (g : List Code) : ∀ (l : List AT), (∀ t ∈ l, (AT.txt g t).length ≤ AT.wid t) → ((AT.txtAll g l).map (·.length)).sum + 2 * (AT.txtAll g l).length ≤ AT.widAll l
  | [], _ => by simp [AT.txtAll, AT.widAll]
  | t :: l, h => by
    have h1 := h t List.mem_cons_self
    have h2 := txtAll_sum g l fun u hu => h u (List.mem_cons_of_mem _ hu)
    simp only [AT.txtAll, AT.widAll, List.map_cons, List.sum_cons, List.length_cons]
    omega
mutual
theorem txt_wid (g : List Code) : ∀ t : AT, (AT.txt g t).length ≤ AT.wid t
  | .leaf d => by rw [AT.txt, AT.wid]; exact Nat.le_refl _
  | .lst a [] => by
    rw [AT.txt, AT.wid]
    have : (("[]" : String) : Str).length = 2 := rfl
    omega
  | .lst a (t :: l) => by
    rw [AT.txt, AT.wid]
    split
    · have : (("[...]" : String) : Str).length = 5 := rfl
      omega
    · have h := listText_len_le (AT.txt g t :: AT.txtAll g l)
      have h2 := txtAll_sum g (t :: l) (txt_widAll g (t :: l))
      rw [AT.txtAll] at h2
      omega
  | .tup a l => by
    rw [AT.txt, AT.wid]
    split
    · have : (("(...)" : String) : Str).length = 5 := rfl
      omega
    · have h := tupleText_len_le (AT.txtAll g l)
      have h2 := txtAll_sum g l (txt_widAll g l)
      omega
theorem txt_widAll (g : List Code) : ∀ l : List AT, ∀ t ∈ l, (AT.txt g t).length ≤ AT.wid t
  | [], _, h => nomatch h
  | u :: l, t, h => by
    rcases List.mem_cons.mp h with e | h
    · rw [e]
      exact txt_wid g u
    · exact txt_widAll g l t h
end
def Agr (g0 g : List Code) (as : List Addr) : Prop := ∀ b ∈ as, blkL g b = blkL g0 b ∧ blkT g b = blkT g0 b
theorem Agr.refl (g : List Code) (as : List Addr) : Agr g g as := fun _ _ => ⟨rfl, rfl⟩
theorem ref_beq {a b : Addr} (n : a ≠ b) : (Value.ref a == Value.ref b) = false := beq_eq_false_iff_ne.mpr fun e => n (Value.ref.inj e)
theorem Agr.cons {g0 g : List Code} {as : List Addr} {a : Addr} {id : String} {rest : List Value} {kw : List (Str × Value)} (h : Agr g0 g as) (n : a ∉ as) : Agr g0 (.builtin id ⟨.ref a :: rest, kw⟩ :: g) as := by
  intro b hb
  have ne : a ≠ b := fun e => n (e ▸ hb)
  obtain ⟨h1, h2⟩ := h b hb
  constructor
  · rw [← h1]
    unfold blkL
    rw [List.any_cons]
    have : loopF (.ref b) (Code.builtin id ⟨.ref a :: rest, kw⟩, default) = false := by
      unfold loopF
      split
      · next v r k q heq =>
        cases heq
        exact listSameRef_of_ne fun e => ne (Value.ref.inj e)
      · rfl
    rw [this, Bool.false_or]
  · rw [← h2]
    unfold blkT
    rw [List.any_cons]
    have : tupGuardF (.ref b) (Code.builtin id ⟨.ref a :: rest, kw⟩, default) = false := by
      simp only [tupGuardF, ref_beq ne, Bool.false_and]
    rw [this, Bool.false_or]
end
section
open PySem.Spec PyProof.Rows
open Sem (wp)
open Builtin Builtin.List
variable {prog : Program} {w : World} {g0 : List Code}
def ReprD (prog : Program) (w : World) (g0 : List Code) (as : List Addr) (h0 : Heap) (d : Nat) (x : Value) (t : Str) : Prop :=
  ∀ (n : Nat), n + t.length ≤ sizeLine → ∀ (A : Around) (g : List Code) (E : Value → Shared → Prop) (s : Shared) (Q : Str → Shared → Prop), A.guards = some g → Agr g0 g as → A.units + d < cLine →
    (∀ b o, h0.get? b = some o → s.heap.get? b = some o) → (∀ h' tk, (∀ b o, s.heap.get? b = some o → h'.get? b = some o) → Q t { s with heap := h', toks := tk }) → wpAny (model prog w) A (pyReprUnder n x) Q E s
theorem ReprD.leaf {x : Value} {t : Str} (h : ReprIs prog w x t) (as : List Addr) (h0 : Heap) (d : Nat) : ReprD prog w g0 as h0 d x t :=
  fun n hn A _ E s Q _ _ _ _ q => h n hn A E s Q fun tk => q s.heap tk fun _ _ e => e
theorem ReprD.wide {as bs : List Addr} {h0 : Heap} {d e : Nat} {x : Value} {t : Str} (h : ReprD prog w g0 as h0 d x t) (i : ∀ b ∈ as, b ∈ bs) (l : d ≤ e) : ReprD prog w g0 bs h0 e x t :=
  fun n hn A g E s Q hg ha hu hk q => h n hn A g E s Q hg (fun b hb => ha b (i b hb)) (by omega) hk q
/-- the loop of list.__repr__ -/
theorem loopD {A : Around} {R : Result → Shared → Prop} {a P : Addr} (hne : a ≠ P) {items : Array Value} {ts : List Str} {as : List Addr} {h0 : Heap} {d n : Nat} {g : List Code} (hg : A.guards = some g) (hag : Agr g0 g as)
    (hu : A.units + (d + 1) < cLine) (hna : a ∉ as) (hPf : h0.get? P = none) (hlen : ts.length = items.size)
    (hT : ∀ (i : Nat) (x : Value), items[i]? = some x → ∃ t, ts[i]? = some t ∧ ReprD prog w g0 as h0 d x t) (hsz : n + (listText ts).length ≤ sizeLine) :
    ∀ (k i : Nat) (s : Shared) (oa : Obj) (na : Nat) (acc : Array Value) (c : Nat) (done : List (Str × Tok)), items.size - i = k → i ≤ items.size → (∀ b o, h0.get? b = some o → s.heap.get? b = some o) →
      s.heap.get? a = some oa → oa.data = .seq items na → s.heap.get? P = some { cls := .type "list", dict := none, data := .seq acc c, slots := #[] } → acc.toList = strValues done → done.map (·.1) = ts.take i →
      (∀ h' u tk, (∀ b o, b ≠ P → s.heap.get? b = some o → h'.get? b = some o) → R (.ok (.ret (.str (listText ts) u))) { s with heap := h', toks := tk }) →
      codeAny (model prog w) A (.builtin "list.__repr__.loop" ⟨[.ref a, rawInt i, .ref P, rawInt ((n + piled (ts.take i) : Nat) : Int)], []⟩) R s := by
  have hX : (listText ts).length = (textFrom 0 "[" ts).length + 1 := by
    show ((textFrom 0 "[" ts) ++ ("]" : Str)).length = _
    rw [strLen_append]
    rfl
  obtain ⟨hL1, hL2, _⟩ := textFrom_len ts 0 "["
  rw [if_neg (Nat.lt_irrefl 0)] at hL1
  have hsz1 : items.size ≤ sizeLine := by omega
  have hp3 := piled_le_listText ts
  intro k
  induction k with
  | zero =>
    intro i s oa na acc c done hk hi hk0 ha hda hP hacc hdone hR
    have hin : i = items.size := by omega
    refine codeAny_builtin F.entry_list_repr_loop ?_
    show wpAny _ _ («list.__repr__.loop» ⟨[.ref a, .int i 0, .ref P, .int ((n + piled (ts.take i) : Nat) : Int) 0], []⟩) _ _ s
    rw [repr_loop_tree]
    refine wpAny_bind (wpAny_listItems ha hda ?_)
    have e0 : items[(i : Int).toNat]? = none := by simp [hin]
    simp only [e0]
    unfold reprEnd
    refine wpAny_bind (wpAny_listItems hP rfl ?_)
    rw [hacc, repr_fold]
    refine wpAny_bind (wpAny_pure ?_)
    have e1 : done.map (·.1) = ts := by rw [hdone, hin, ← hlen, List.take_length]
    rw [e1]
    exact wpAny_bind (wpAny_mkStr (wpAny_pure (hR s.heap _ _ fun _ _ _ e => e)) (show (listText ts).length ≤ sizeLine by omega))
  | succ k ih =>
    intro i s oa na acc c done hk hi hk0 ha hda hP hacc hdone hR
    have hlt : i < items.size := by omega
    obtain ⟨t, ht, hrep⟩ := hT i items[i] (by simp [hlt])
    have hp1 := piled_take_succ ht
    have hp2 := piled_take_le ts (i + 1)
    have ht2 := hL2 t (List.mem_of_getElem? ht)
    refine codeAny_builtin F.entry_list_repr_loop ?_
    show wpAny _ _ («list.__repr__.loop» ⟨[.ref a, .int i 0, .ref P, .int ((n + piled (ts.take i) : Nat) : Int) 0], []⟩) _ _ s
    rw [repr_loop_tree]
    refine wpAny_bind (wpAny_listItems ha hda ?_)
    have e0 : items[(i : Int).toNat]? = some items[i] := by simp [hlt]
    simp only [e0]
    rw [Int.toNat_natCast]
    refine wpAny_bind (wpAny_holding (hrep (n + piled (ts.take i) + 1) (by omega) _ _ _ _ _ (guards_under_guard (isGuard_list_loop _) hg) (hag.cons (a := a) hna) (by rw [units_under_list_loop]; omega) hk0 fun h' tk hkp => ?_))
    refine wpAny_bind (wpAny_mkStr ?_ (by omega))
    refine wpAny_bind ?_
    show wpAny _ _ (updateSeq P _) _ _ _
    have hasz : acc.size ≤ sizeLine := by
      have e1 : acc.toList.length = acc.size := by simp
      have e2 : (strValues done).length = (done.map (·.1)).length := by simp [strValues]
      rw [hdone, List.length_take] at e2
      rw [hacc] at e1
      omega
    refine wpAny_updateSeq (hkp _ _ hP) rfl (wpAny_pure ⟨F.quiet_list_repr_loop _, ?_⟩) hasz
    have f1 : ((i : Int) + 1) = ((i + 1 : Nat) : Int) := by omega
    have f2 : n + piled (ts.take i) + (t.length + 2) = n + piled (ts.take (i + 1)) := by omega
    rw [f1, f2]
    have out : ∀ {b : Addr}, b ≠ P → P ≠ b := fun z e => z e.symm
    refine ih (i + 1) _ oa na (acc.push (.str t tk)) _ (done ++ [(t, tk)]) (by omega) hlt (fun b o e => (Heap.get?_update_other _ _ (out fun z => by rw [z, hPf] at e; cases e)).trans (hkp _ _ (hk0 _ _ e)))
      ((Heap.get?_update_other _ _ (out hne)).trans (hkp _ _ ha)) hda (Heap.get?_update_self _ (hkp _ _ hP) rfl) (by simp [hacc, strValues]) (by simp [List.take_add_one, ht, hdone]) fun h'' u tk' hh => ?_
    exact hR h'' u tk' fun b o hb e => hh b o hb ((Heap.get?_update_other _ _ (out hb)).trans (hkp _ _ e))
end
section
open PySem.Spec PyProof.Rows
open Sem (wp)
open Builtin Builtin.List
variable {prog : Program} {w : World} {g0 : List Code}
abbrev finE (prog : Program) (w : World) (A : Around) (R : Result → Shared → Prop) : Fin → Shared → Prop := fun f s => match f with
  | .done v => R (.ok v) s
  | .again c => c.quiet = true ∧ codeAny (model prog w) A c R s
/-- the list is being shown already -/
theorem list_way {A : Around} {g : List Code} {c : Code} {a : Addr} {o : Obj} {x : Value} {l : List Value} {m n : Nat} {s : Shared} {Q : Fin → Shared → Prop} {E : Value → Shared → Prop} (hg : A.guards = some g) (hb : blkL g a = true)
    (ha : s.heap.get? a = some o) (hd : o.data = .seq (x :: l).toArray m) (h : ∀ u tk, Q (.done (.ret (.str "[...]" u))) { s with toks := tk }) : wpOwn (model prog w) A c (listReprAt n ⟨[.ref a], []⟩) Q E s := by
  intro Γ p hc hΓ
  have k : wpAny (model prog w) (A.under c) (do rule "list.__repr__.in-itself"; retStr "[...]") Q E s :=
    wpAny_bind (wpAny_rule (wpAny_bind (wpAny_mkStr (wpAny_pure (h _ _)) (by decide +kernel))))
  have k1 := k Γ p (hc ▸ hΓ.in)
  unfold listReprAt
  simp [slotArgs, listItems, seqItems?, Sem.wp_load_of (h := ha), hd, stack]
  show wp _ Γ (if (Γ.below.any (loopF (.ref a))) = true then _ else _) _ _ p s
  rw [if_pos]
  · exact k1
  · rw [any_eq_guards (loopF_off _) (loopF_pos _), hΓ.2.2.2.1 g hg]
    exact hb
theorem list_no {g : List Code} {a : Addr} (h : blkL g a = false) (v : Value) (rest : List Value) (kw : List (Str × Value)) (hm : Code.builtin "list.__repr__.loop" ⟨v :: rest, kw⟩ ∈ g) : listSameRef v (.ref a) = false := by
  have := List.any_eq_false.mp h _ hm
  simpa [loopF] using this
theorem list_at {as : List Addr} {h0 : Heap} {d : Nat} {a : Addr} {oa : Obj} {x : Value} {l : List Value} {na : Nat} {ts : List Str} (ha : h0.get? a = some oa) (hda : oa.data = .seq (x :: l).toArray na) (hna : a ∉ as)
    (hlen : ts.length = (x :: l).toArray.size) (hT : ∀ (i : Nat) (y : Value), (x :: l).toArray[i]? = some y → ∃ t, ts[i]? = some t ∧ ReprD prog w g0 as h0 d y t) {A : Around} {g : List Code} {s : Shared} {R : Result → Shared → Prop} {n : Nat} {id : String} {rest : List Value}
    (hpl : plainId id = true) (hg : A.guards = some g) (hag : Agr g0 g (a :: as)) (hu : A.units + (d + 1) < cLine) (hk0 : ∀ b o, h0.get? b = some o → s.heap.get? b = some o)
    (hR : ∀ h' u tk, (∀ b o, s.heap.get? b = some o → h'.get? b = some o) → R (.ok (.ret (.str (if blkL g0 a then "[...]" else listText ts) u))) { s with heap := h', toks := tk })
    (hsz : blkL g0 a = false → n + (listText ts).length ≤ sizeLine) : wpOwn (model prog w) A (.builtin id ⟨.ref a :: rest, []⟩) (listReprAt n ⟨[.ref a], []⟩) (finE prog w A R) (fun e s' => R (.error e) s') s := by
  have e := (hag a List.mem_cons_self).1
  cases hB : blkL g0 a with
  | true =>
    rw [hB] at e
    simp only [hB] at hR
    exact list_way hg e (hk0 _ _ ha) hda fun u tk => hR s.heap u tk fun _ _ z => z
  | false =>
    rw [hB] at e
    simp only [hB] at hR
    have hPf : h0.get? s.heap.objs.size = none := by
      cases q : h0.get? s.heap.objs.size with
      | none => rfl
      | some o => exact absurd (Heap.lt_size (hk0 _ _ q)) (Nat.lt_irrefl _)
    refine wpOwn_of_wpAny ?_
    rw [Around.under_plainId hpl]
    refine wpAny_list_repr_head (A := A.in1) hg (list_no e) (hk0 _ _ ha) hda ?_
    refine wpAny_bind (m := newList []) (wpAny_newObj_type (wpAny_pure ⟨F.quiet_list_repr_loop _, ?_⟩))
    refine loopD (P := s.heap.objs.size) (g0 := g0) (Nat.ne_of_lt (Heap.lt_size (hk0 _ _ ha))) hg (fun b hb => hag b (List.mem_cons_of_mem _ hb)) hu hna hPf hlen hT (hsz hB) _ 0 _ oa na #[] _ [] rfl (Nat.zero_le _)
      (fun b o z => Heap.get?_push_of_some _ (hk0 _ _ z)) (Heap.get?_push_of_some _ (hk0 _ _ ha)) hda (Heap.get?_push_size _ rfl) rfl (by simp) fun h' u tk hk => ?_
    exact hR h' u tk fun b o z => hk b o (Nat.ne_of_lt (Heap.lt_size z)) (Heap.get?_push_of_some _ z)
inductive ReprDs (prog : Program) (w : World) (g0 : List Code) (as : List Addr) (h0 : Heap) (d : Nat) : List Value → List Str → Prop
  | nil : ReprDs prog w g0 as h0 d [] []
  | cons {x : Value} {t : Str} {l : List Value} {ts : List Str} : ReprD prog w g0 as h0 d x t → ReprDs prog w g0 as h0 d l ts → ReprDs prog w g0 as h0 d (x :: l) (t :: ts)
theorem ReprDs.len {as : List Addr} {h0 : Heap} {d : Nat} : ∀ {l : List Value} {ts : List Str}, ReprDs prog w g0 as h0 d l ts → ts.length = l.length
  | _, _, .nil => rfl
  | _, _, .cons _ h => by rw [List.length_cons, List.length_cons, h.len]
theorem ReprDs.item {as : List Addr} {h0 : Heap} {d : Nat} : ∀ {l : List Value} {ts : List Str}, ReprDs prog w g0 as h0 d l ts → ∀ (i : Nat) (y : Value), l[i]? = some y → ∃ t, ts[i]? = some t ∧ ReprD prog w g0 as h0 d y t
  | _, _, .nil, i, y, e => by simp at e
  | _, _, .cons hx _, 0, y, e => by
    cases Option.some.inj e
    exact ⟨_, rfl, hx⟩
  | _, _, .cons _ hl, i + 1, y, e => hl.item i y e
theorem ReprDs.wide {as bs : List Addr} {h0 : Heap} {d e : Nat} (i : ∀ b ∈ as, b ∈ bs) (l : d ≤ e) : ∀ {vs : List Value} {ts : List Str}, ReprDs prog w g0 as h0 d vs ts → ReprDs prog w g0 bs h0 e vs ts
  | _, _, .nil => .nil
  | _, _, .cons hx hl => .cons (hx.wide i l) (hl.wide i l)
theorem tup_fold {A : Around} {E : Value → Shared → Prop} {as : List Addr} {h0 : Heap} {d : Nat} {g : List Code} (hg : A.guards = some g) (hag : Agr g0 g as) (hu : A.units + d < cLine) :
    ∀ (l : List Value) (ts : List Str) (acc : Array Str) (n : Nat) (s : Shared) (Q : (Array Str × Nat) → Shared → Prop), ReprDs prog w g0 as h0 d l ts → n + piled ts ≤ sizeLine → (∀ b o, h0.get? b = some o → s.heap.get? b = some o) →
      (∀ h' tk, (∀ b o, s.heap.get? b = some o → h'.get? b = some o) → Q ⟨acc ++ ts.toArray, n + piled ts⟩ { s with heap := h', toks := tk }) → wpAny (model prog w) A (forIn l (⟨acc, n⟩ : (Array Str × Nat)) tupBody) Q E s := by
  intro l
  induction l with
  | nil =>
    intro ts acc n s Q hT _ _ q
    cases hT
    have q0 := q s.heap s.toks fun _ _ e => e
    simp only [List.forIn_nil]
    exact wpAny_pure (by simpa [piled] using q0)
  | cons x l ih =>
    intro ts acc n s Q hT hn hk0 q
    cases hT with
    | cons hx hl =>
      rename_i t ts'
      rw [piled_cons] at hn
      rw [List.forIn_cons]
      refine wpAny_bind (wpAny_bind (hx (n + 1) (by omega) _ _ _ _ _ hg hag hu hk0 fun h' tk hk1 => wpAny_pure ?_))
      refine ih ts' (acc.push t) (n + (t.length + 2)) _ Q hl (by omega) (fun b o z => hk1 _ _ (hk0 _ _ z)) fun h'' tk' hk2 => ?_
      have q1 := q h'' tk' fun b o z => hk2 _ _ (hk1 _ _ z)
      rw [show n + piled (t :: ts') = n + (t.length + 2) + piled ts' by rw [piled_cons]; omega] at q1
      simpa using q1
theorem tup_at {as : List Addr} {h0 : Heap} {d : Nat} {a : Addr} {o : Obj} {items : Array Value} {na : Nat} {ts : List Str} (ha : h0.get? a = some o) (hd : o.data = .seq items na) (hna : a ∉ as) (hT : ReprDs prog w g0 as h0 d items.toList ts)
    {A : Around} {g : List Code} {s : Shared} {R : Result → Shared → Prop} {n : Nat} {id : String} {rest : List Value} (hcg : (Code.builtin id ⟨.ref a :: rest, []⟩).isGuard = true) (hcu : (A.under (.builtin id ⟨.ref a :: rest, []⟩)).units = A.units + 1)
    (hg : A.guards = some g) (hag : Agr g0 g (a :: as)) (hu : A.units + (d + 1) < cLine) (hk0 : ∀ b o, h0.get? b = some o → s.heap.get? b = some o)
    (hR : ∀ h' u tk, (∀ b o, s.heap.get? b = some o → h'.get? b = some o) → R (.ok (.ret (.str (if blkT g0 a then "(...)" else tupleText ts) u))) { s with heap := h', toks := tk })
    (hsz : blkT g0 a = false → n + (tupleText ts).length ≤ sizeLine) : wpOwn (model prog w) A (.builtin id ⟨.ref a :: rest, []⟩) (tupleReprAt n ⟨[.ref a], []⟩) (finE prog w A R) (fun e s' => R (.error e) s') s := by
  have e := (hag a List.mem_cons_self).2
  unfold blkT at e
  have hlen : ts.length = items.size := by simpa using hT.len
  have hp := piled_le_tupleText ts
  rw [tuple_repr_tree, tupleReprUnderWay_eq]
  refine wpOwn_bind (wpOwn_stackTailAny hg (tupGuardF_off _) (tupGuardF_pos _) ?_)
  rw [e]
  show wpOwn _ _ _ (if blkT g0 a = true then _ else _) _ _ _
  refine wpOwn_of_wpAny ?_
  cases hB : blkT g0 a with
  | true =>
    simp only [hB] at hR
    refine PySem.W.KFB.if_so rfl ?_
    exact wpAny_bind (wpAny_rule (wpAny_bind (wpAny_mkStr (wpAny_pure (hR s.heap _ _ fun _ _ z => z)) (by decide +kernel))))
  | false =>
    simp only [hB] at hR
    have hz := hsz hB
    refine PySem.W.KFB.if_not rfl ?_
    unfold tupleReprRest Builtin.Tuple.tupleItemsOf
    refine wpAny_bind (wpAny_bind (wpAny_seqItems (hk0 _ _ ha) hd (wpAny_pure ?_)))
    rw [← Array.forIn_toList]
    refine wpAny_bind (tup_fold (g0 := g0) (guards_under_guard hcg hg) (Agr.cons (a := a) (fun b hb => hag b (List.mem_cons_of_mem _ hb)) hna) (by rw [hcu]; omega) _ ts _ _ _ _ hT (by omega) hk0 fun h' tk hk1 => ?_)
    refine wpAny_bind (wpAny_mkStr (wpAny_pure ?_) (by simpa [tupleText, hlen] using (show (tupleText ts).length ≤ sizeLine by omega)))
    have q := hR h' tk (tk + 1) hk1
    simpa [tupleText, hlen] using q
end
section
open PySem.Spec PyProof.Rows
open Sem (wp)
open Builtin Builtin.List
variable {prog : Program} {w : World} {g0 : List Code}
theorem ReprD.lst {as : List Addr} {h0 : Heap} {d : Nat} {a : Addr} {oa : Obj} {x : Value} {l : List Value} {na : Nat} {ts : List Str} (ha : h0.get? a = some oa) (hc : oa.cls = .type "list") (hda : oa.data = .seq (x :: l).toArray na) (hna : a ∉ as)
    (hT : ReprDs prog w g0 as h0 d (x :: l) ts) : ReprD prog w g0 (a :: as) h0 (d + 1) (.ref a) (if blkL g0 a then "[...]" else listText ts) := by
  intro n hn A g E s Q hg hag hu hk q
  have hl : ts.length = (x :: l).toArray.size := by simpa using hT.len
  refine wpAny_pyReprUnder_ref (by omega) (wpAny_pyReprObjUnder_twin (twin := "list.__repr__.under") ⟨oa, hk _ _ ha, hc⟩ F.slot_list_repr.toG rfl (by omega) ?_)
  refine call_twin_own (Code.quiet_builtin _ (by decide +kernel)) F.entry_list_repr_under F.check_list_repr_under ⟨oa, hk _ _ ha, hc⟩ F.slot_list_repr.toG (F.args_list_repr_1 _) ?_
  refine list_at (R := callEnd _ E) ha hda hna hl (fun i y e => hT.item i y (by simpa using e)) F.plain_list_repr_under hg hag hu hk (fun h' u tk hk1 => ⟨⟨_, _, rfl⟩, _, _, rfl, q h' tk hk1⟩) fun hB => ?_
  rw [hB] at hn
  exact hn
theorem ReprD.bare {as : List Addr} {h0 : Heap} {d : Nat} {a : Addr} {oa : Obj} {na : Nat} (ha : h0.get? a = some oa) (hc : oa.cls = .type "list") (hda : oa.data = .seq #[] na) : ReprD prog w g0 as h0 d (.ref a) "[]" := by
  intro n hn A g E s Q _ _ hu hk q
  exact wpAny_pyReprUnder_ref (by omega) (wpAny_pyReprObjUnder_list_empty ⟨oa, hk _ _ ha, hc⟩ (by omega) (hk _ _ ha) hda ⟨_, _, rfl, q s.heap _ fun _ _ e => e⟩)
theorem ReprD.tup {as : List Addr} {h0 : Heap} {d : Nat} {a : Addr} {oa : Obj} {items : Array Value} {na : Nat} {ts : List Str} (ha : h0.get? a = some oa) (hc : oa.cls = .type "tuple") (hda : oa.data = .seq items na) (hna : a ∉ as)
    (hT : ReprDs prog w g0 as h0 d items.toList ts) : ReprD prog w g0 (a :: as) h0 (d + 1) (.ref a) (if blkT g0 a then "(...)" else tupleText ts) := by
  intro n hn A g E s Q hg hag hu hk q
  refine wpAny_pyReprUnder_ref (by omega) (wpAny_pyReprObjUnder_twin (twin := "tuple.__repr__.under") ⟨oa, hk _ _ ha, hc⟩ F.slot_tuple_repr rfl (by omega) ?_)
  refine call_twin_own (F.quiet_tuple_repr_under _) F.entry_tuple_repr_under F.check_tuple_repr_under ⟨oa, hk _ _ ha, hc⟩ F.slot_tuple_repr (F.args_tuple_repr_1 _) ?_
  refine tup_at (R := callEnd _ E) ha hda hna hT (isGuard_tuple_repr_under _) (units_under_tuple_repr_under _ _) hg hag hu hk (fun h' u tk hk1 => ⟨⟨_, _, rfl⟩, _, _, rfl, q h' tk hk1⟩) fun hB => ?_
  rw [hB] at hn
  exact hn
mutual
theorem Ap.dp {K : PySem.W.Frag} {H : Hp} : ∀ {v : V} {t : AT}, Ap K H v t → Dp K H v t.data
  | _, _, .non => .non
  | _, _, .bl b => .bl b
  | _, _, .int i => .int i
  | _, _, .str x => .str x
  | _, _, .lst h a => by rw [AT.data]; exact .lst h a.dp
  | _, _, .tup h a => by rw [AT.data]; exact .tup h a.dp
theorem ApAll.dp {K : PySem.W.Frag} {H : Hp} : ∀ {vs : List V} {l : List AT}, ApAll K H vs l → DpAll K H vs (AT.dataAll l)
  | _, _, .nil => by rw [AT.dataAll]; exact .nil
  | _, _, .cons h a => by rw [AT.dataAll]; exact .cons h.dp a.dp
end
mutual
theorem Ap.same {K : PySem.W.Frag} {H H' : Hp} (e : Same H H') : ∀ {v : V} {t : AT}, Ap K H v t → Ap K H' v t
  | _, _, .non => .non
  | _, _, .bl b => .bl b
  | _, _, .int i => .int i
  | _, _, .str x => .str x
  | _, _, .lst h a => .lst (e.seq h) (ApAll.same e a)
  | _, _, .tup h a => .tup (same_t e h) (ApAll.same e a)
theorem ApAll.same {K : PySem.W.Frag} {H H' : Hp} (e : Same H H') : ∀ {vs : List V} {l : List AT}, ApAll K H vs l → ApAll K H' vs l
  | _, _, .nil => .nil
  | _, _, .cons h a => .cons (Ap.same e h) (ApAll.same e a)
end
section
variable {X : Cx} {pins : List (Addr × Obj)} {σ : L2.St} {H : Hp} {s : Shared}
mutual
theorem repr_of (I : Inv X pins σ H s) : ∀ (t : AT) (v : V) (u : Value), Ap X.K H v t → RelV v u → t.data.showable = true → t.wid ≤ sizeLine → ∃ bs, ReadAtMost s.heap t.data.depth bs ∧ ReprD X.prog X.w g0 bs s.heap t.data.depth u (t.txt g0)
  | .leaf d, v, u, h, r, hs, hw => by
    refine ⟨[], (fun _ z => nomatch z), ?_⟩
    rw [AT.txt]
    rw [AT.wid] at hw
    cases h with
    | non =>
      cases r
      exact .leaf ReprIs.none _ _ _
    | bl b =>
      cases r
      exact .leaf (ReprIs.bool b) _ _ _
    | int i =>
      obtain ⟨k, rfl⟩ := r
      exact .leaf (ReprIs.int k (by simpa [AT.data, PyData.showable] using hs)) _ _ _
    | str x =>
      obtain ⟨k, rfl⟩ := r
      exact .leaf (ReprIs.str x k (by simpa only [PyData.shown] using hw)) _ _ _
  | .lst a [], v, u, h, r, hs, hw => by
    cases h with
    | lst hq ha =>
      cases ha
      cases r
      obtain ⟨its, rv, ⟨o, n, ho, hc, _, hd⟩, _⟩ := I.list hq
      cases rv
      rw [AT.txt]
      exact ⟨[], (fun _ z => nomatch z), ReprD.bare ho hc hd⟩
  | .lst a (t :: l), v, u, h, r, hs, hw => by
    obtain ⟨as, hR⟩ := Dp.reads I _ v u h.dp r
    cases h with
    | lst hq ha =>
      cases r
      obtain ⟨its, rv, ⟨o, n, ho, hc, _, hd⟩, _⟩ := I.list hq
      rw [AT.data, PyData.showable] at hs
      rw [AT.wid] at hw
      obtain ⟨bs, hb, hk⟩ := repr_ofAll I (t :: l) _ its ha rv hs (by omega)
      rw [AT.data] at hR
      have hna : a ∉ bs := not_mem_of_deeper hR (by simp only [PyData.depth]; omega) hb
      refine ⟨a :: bs, ?_, ?_⟩
      · rw [AT.data]
        exact ReadAtMost.cons hR (by simp only [PyData.depth]; omega) hb
      · rw [AT.txt, AT.data, PyData.depth]
        cases ha with
        | cons h1 h2 =>
          cases rv with
          | cons r1 r2 =>
            rw [AT.txtAll] at hk
            exact .lst ho hc hd hna hk
  | .tup a l, v, u, h, r, hs, hw => by
    obtain ⟨as, hR⟩ := Dp.reads I _ v u h.dp r
    cases h with
    | tup hq ha =>
      cases r
      obtain ⟨its, rv, ⟨o, ho, hc, n, hd⟩, _⟩ := I.tuple hq
      rw [AT.data, PyData.showable] at hs
      rw [AT.wid] at hw
      obtain ⟨bs, hb, hk⟩ := repr_ofAll I l _ its ha rv hs (by omega)
      rw [AT.data] at hR
      have hna : a ∉ bs := not_mem_of_deeper hR (by simp only [PyData.depth]; omega) hb
      refine ⟨a :: bs, ?_, ?_⟩
      · rw [AT.data]
        exact ReadAtMost.cons hR (by simp only [PyData.depth]; omega) hb
      · rw [AT.txt, AT.data, PyData.depth]
        exact .tup ho hc hd hna (by simpa using hk)
theorem repr_ofAll (I : Inv X pins σ H s) : ∀ (l : List AT) (vs : List V) (us : List Value), ApAll X.K H vs l → Vals vs us → PyData.showableAll (AT.dataAll l) = true → AT.widAll l ≤ sizeLine → ∃ bs, ReadAtMost s.heap (PyData.depthAll (AT.dataAll l)) bs ∧ ReprDs X.prog X.w g0 bs s.heap (PyData.depthAll (AT.dataAll l)) us (AT.txtAll g0 l)
  | [], _, _, h, r, _, _ => by
    cases h
    cases r
    exact ⟨[], (fun _ z => nomatch z), by rw [AT.txtAll]; exact .nil⟩
  | t :: l, _, _, h, r, hs, hw => by
    cases h with
    | cons h1 h2 =>
      cases r with
      | cons r1 r2 =>
        have hs' : t.data.showable = true ∧ PyData.showableAll (AT.dataAll l) = true := by simpa [AT.dataAll, PyData.showableAll] using hs
        rw [AT.widAll] at hw
        obtain ⟨b1, k1, m1⟩ := repr_of I t _ _ h1 r1 hs'.1 (by omega)
        obtain ⟨b2, k2, m2⟩ := repr_ofAll I l _ _ h2 r2 hs'.2 (by omega)
        rw [AT.dataAll, AT.txtAll, PyData.depthAll]
        exact ⟨b1 ++ b2, (k1.mono (Nat.le_max_left _ _)).append (k2.mono (Nat.le_max_right _ _)), .cons (m1.wide (fun b hb => List.mem_append_left _ hb) (Nat.le_max_left _ _)) (m2.wide (fun b hb => List.mem_append_right _ hb) (Nat.le_max_right _ _))⟩
end
end
end
section
open PySem.Spec PyProof.Rows
variable {X : Cx}
def gdX (X : Cx) (g : List Code) : Cx := { X with A := { X.A with guards := some g } }
theorem gd_inv {pins : List (Addr × Obj)} {σ : L2.St} {H : Hp} {s : Shared} {g : List Code} (I : Inv X pins σ H s) : Inv (gdX X g) pins σ H s :=
  ⟨⟨I.ok.mod, I.ok.kind, I.ok.glob, I.ok.blt, I.ok.above, I.ok.inj, I.ok.has, I.ok.cab, I.ok.hd, I.ok.frames, I.ok.stk, I.ok.exf, I.ok.bs, I.ok.bsz, I.ok.noex, I.ok.exfs, I.ok.funs, I.ok.frf⟩, I.os, I.bare, I.base, I.loc, I.cell, I.free, I.freeC, I.pin, I.hok, I.len⟩
theorem ungd_inv {pins : List (Addr × Obj)} {σ : L2.St} {H : Hp} {s : Shared} {g : List Code} (I : Inv (gdX X g) pins σ H s) : Inv X pins σ H s :=
  ⟨⟨I.ok.mod, I.ok.kind, I.ok.glob, I.ok.blt, I.ok.above, I.ok.inj, I.ok.has, I.ok.cab, I.ok.hd, I.ok.frames, I.ok.stk, I.ok.exf, I.ok.bs, I.ok.bsz, I.ok.noex, I.ok.exfs, I.ok.funs, I.ok.frf⟩, I.os, I.bare, I.base, I.loc, I.cell, I.free, I.freeC, I.pin, I.hok, I.len⟩
theorem gd_in {Γ : PySem.Ctx} {A : Around} (h : Γ.In A) : Γ.In { A with guards := some (Γ.code.guards ++ guardsOf Γ.below) } :=
  ⟨h.1, h.2.1, h.2.2.1, fun g hg => Option.some.inj hg, h.2.2.2.2⟩
theorem gd_room {k : Nat} {g : List Code} {A : Around} (h : Room k A) : Room k { A with guards := some g } := ⟨h.hd, h.dp, h.un⟩
/-- a block, for each list of what is being shown around it -/
theorem pss_gd {b : List Stmt} {t : List Code → TS} (h : ∀ g, PSs (gdX X g) b (t g)) : PSs X b (fun D σ H => ∀ g, t g D σ H) := by
  refine ⟨fun pins s σ H D I q Γ p hΓ => ?_⟩
  have k := (h (Γ.code.guards ++ guardsOf Γ.below)).run pins s σ H D (gd_inv I) (q _)
  refine (wpAny_mono k (fun f s' z => ?_) fun e s' z => z) Γ p (gd_in hΓ)
  cases f with
  | next =>
    obtain ⟨σ', H', J, z⟩ := z
    exact ⟨σ', H', ungd_inv J, z⟩
  | brk =>
    obtain ⟨σ', H', J, z⟩ := z
    exact ⟨σ', H', ungd_inv J, z⟩
  | cont =>
    obtain ⟨σ', H', J, z⟩ := z
    exact ⟨σ', H', ungd_inv J, z⟩
  | ret u =>
    obtain ⟨v, σ', H', J, r, z⟩ := z
    exact ⟨v, σ', H', ungd_inv J, r, z⟩
def rRepr (K : PySem.W.Frag) (g : List Code) : List V → Hp → VK → Prop := fun xs H Q => ∃ (v : V) (t : AT), xs = [v] ∧ Ap K H v t ∧ t.data.showable = true ∧ t.wid ≤ sizeLine ∧ t.data.depth ≤ 40 ∧ Q (.str (t.txt g)) H
theorem call_reprA {g : List Code} (hg : X.A.guards = some g) (hu : X.A.units + 64 < cLine) : CallR X (.builtin "repr") (rRepr X.K g) := by
  intro pins s σ H xs us Q I r h
  obtain ⟨v, t, rfl, ha, hs, hw, hd, q⟩ := h
  obtain ⟨u, rfl, ru⟩ := r.one
  have fin : ∀ (h' : Heap) (k tk : Tok), (∀ b o, s.heap.get? b = some o → h'.get? b = some o) → EP X pins σ Q (.str (t.txt g) k) { s with heap := h', toks := tk } := fun h' k tk hk => ⟨.str _, H, I.kept hk, ⟨_, rfl⟩, q⟩
  have fin0 : EP X pins σ Q (.str (t.txt g) s.toks) { s with toks := s.toks + 1 } := fin s.heap _ _ fun _ _ e => e
  cases t with
  | leaf d =>
    rw [AT.txt] at fin0
    rw [AT.wid] at hw
    cases ha with
    | non =>
      cases ru
      exact PySem.P.repr_of_none fin0
    | bl b =>
      cases ru
      exact PySem.P.repr_of_bool fin0
    | int i =>
      obtain ⟨k, rfl⟩ := ru
      exact PySem.P.repr_of_int (by simpa [AT.data, PyData.showable] using hs) fin0
    | str x =>
      obtain ⟨k, rfl⟩ := ru
      exact PySem.P.repr_of_str fin0 (by simpa only [PyData.shown] using hw)
  | lst a l =>
    have ha0 := ha
    obtain ⟨as, hR⟩ := Dp.reads I _ v u ha.dp ru
    cases ha with
    | lst hq hl =>
      cases ru
      obtain ⟨its, rv, ⟨o, n, ho, hc, _, hdt⟩, _⟩ := I.list hq
      refine call_repr_slot (by omega) ⟨o, ho, hc⟩ F.slot_list_repr.toG ?_
      cases l with
      | nil =>
        cases hl
        cases rv
        rw [AT.txt] at fin
        exact call_list_repr_empty ⟨o, ho, hc⟩ ho hdt ⟨_, _, rfl, fin s.heap _ _ fun _ _ e => e⟩
      | cons t l =>
        rw [AT.data, PyData.showable] at hs
        rw [AT.wid] at hw
        rw [AT.data, PyData.depth] at hd
        obtain ⟨bs, hb, hk⟩ := repr_ofAll (g0 := g) I (t :: l) _ its hl rv hs (by omega)
        rw [AT.data] at hR
        have hna : a ∉ bs := not_mem_of_deeper hR (by simp only [PyData.depth]; omega) hb
        cases hl with
        | cons h1 h2 =>
          cases rv with
          | cons r1 r2 =>
            rw [AT.txtAll] at hk
            rw [AT.txt] at fin
            have hz := txt_wid g (AT.lst a (t :: l))
            rw [AT.txt, AT.wid] at hz
            refine wpAny_call (codeAny_call_builtin_own (Code.quiet_builtin _ (by decide +kernel)) F.entry_list_repr (F.slot_list_repr.toG.check _ _ _ _ _ _ _ _ ⟨o, ho, hc⟩ (F.args_list_repr_1 _) ?_))
            refine list_at (R := callEnd _ _) (n := 0) ho hdt hna (by simpa using hk.len) (fun i y e => hk.item i y (by simpa using e)) F.slot_list_repr.plain hg (Agr.refl _ _) (by show X.A.units + 1 + _ < _; omega) (fun _ _ e => e) (fun h' u tk hk1 => ⟨_, _, rfl, fin h' u tk hk1⟩) fun hB => ?_
            rw [hB] at hz
            have hz2 : (listText (AT.txt g t :: AT.txtAll g l)).length ≤ 6 + AT.widAll (t :: l) := hz
            omega
  | tup a l =>
    obtain ⟨as, hR⟩ := Dp.reads I _ v u ha.dp ru
    cases ha with
    | tup hq hl =>
      cases ru
      obtain ⟨its, rv, ⟨o, ho, hc, n, hdt⟩, _⟩ := I.tuple hq
      refine call_repr_slot (by omega) ⟨o, ho, hc⟩ F.slot_tuple_repr ?_
      rw [AT.data, PyData.showable] at hs
      rw [AT.wid] at hw
      rw [AT.data, PyData.depth] at hd
      obtain ⟨bs, hb, hk⟩ := repr_ofAll (g0 := g) I l _ its hl rv hs (by omega)
      rw [AT.data] at hR
      have hna : a ∉ bs := not_mem_of_deeper hR (by simp only [PyData.depth]; omega) hb
      rw [AT.txt] at fin
      have hz := txt_wid g (AT.tup a l)
      rw [AT.txt, AT.wid] at hz
      refine wpAny_call (codeAny_call_builtin_own (Code.quiet_builtin _ (by decide +kernel)) F.entry_tuple_repr (F.slot_tuple_repr.check _ _ _ _ _ _ _ _ ⟨o, ho, hc⟩ (F.args_tuple_repr_1 _) ?_))
      refine tup_at (R := callEnd _ _) (n := 0) ho hdt hna (by simpa using hk) (isGuard_tuple_repr _) (units_under_tuple_repr _ _) hg (Agr.refl _ _) (by show X.A.units + 1 + _ < _; omega) (fun _ _ e => e) (fun h' u tk hk1 => ⟨_, _, rfl, fin h' u tk hk1⟩) fun hB => ?_
      rw [hB] at hz
      have hz2 : (tupleText (AT.txtAll g l)).length ≤ 6 + AT.widAll l := hz
      omega
end
/-! ### repr, where none is under way: by what the thing is -/
mutual
def dw : PyData → Nat
  | .list xs => 6 + dwAll xs
  | .tuple xs => 6 + dwAll xs
  | d => d.shown.length
def dwAll : List PyData → Nat
  | [] => 0
  | x :: xs => dw x + 2 + dwAll xs
end
section
open PySem.Spec PyProof.Rows
mutual
theorem dp_ap {K : PySem.W.Frag} {H : Hp} : ∀ {v : V} {d : PyData}, Dp K H v d → ∃ t : AT, Ap K H v t ∧ t.data = d ∧ t.wid = dw d ∧ t.txt [] = d.shown
  | _, _, .non => ⟨.leaf .none, .non, by rw [AT.data], by rw [AT.wid, dw] <;> nofun, by rw [AT.txt]⟩
  | _, _, .bl b => ⟨.leaf (.bool b), .bl b, by rw [AT.data], by rw [AT.wid, dw] <;> nofun, by rw [AT.txt]⟩
  | _, _, .int i => ⟨.leaf (.int i), .int i, by rw [AT.data], by rw [AT.wid, dw] <;> nofun, by rw [AT.txt]⟩
  | _, _, .str x => ⟨.leaf (.str x), .str x, by rw [AT.data], by rw [AT.wid, dw] <;> nofun, by rw [AT.txt]⟩
  | _, _, .lst (a := a) h q => by
    obtain ⟨l, h1, h2, h3, h4⟩ := dp_apAll q
    refine ⟨.lst a l, .lst h h1, by rw [AT.data, h2], by rw [AT.wid, dw, h3], ?_⟩
    rw [PyData.shown, ← h4]
    cases l with
    | nil =>
      rw [AT.txt, AT.txtAll]
      exact listText_nil.symm
    | cons t l =>
      rw [AT.txt, AT.txtAll]
      rfl
  | _, _, .tup (a := a) h q => by
    obtain ⟨l, h1, h2, h3, h4⟩ := dp_apAll q
    refine ⟨.tup a l, .tup h h1, by rw [AT.data, h2], by rw [AT.wid, dw, h3], ?_⟩
    rw [PyData.shown, ← h4, AT.txt]
    rfl
theorem dp_apAll {K : PySem.W.Frag} {H : Hp} : ∀ {vs : List V} {ds : List PyData}, DpAll K H vs ds → ∃ l : List AT, ApAll K H vs l ∧ AT.dataAll l = ds ∧ AT.widAll l = dwAll ds ∧ AT.txtAll [] l = PyData.shownAll ds
  | _, _, .nil => ⟨[], .nil, by rw [AT.dataAll], by rw [AT.widAll, dwAll], by rw [AT.txtAll, PyData.shownAll]⟩
  | _, _, .cons h q => by
    obtain ⟨t, a1, a2, a3, a4⟩ := dp_ap h
    obtain ⟨l, b1, b2, b3, b4⟩ := dp_apAll q
    exact ⟨t :: l, .cons a1 b1, by rw [AT.dataAll, a2, b2], by rw [AT.widAll, dwAll, a3, b3], by rw [AT.txtAll, PyData.shownAll, a4, b4]⟩
end
structure Shn (d : PyData) : Prop where
  s : d.showable = true
  w : dw d ≤ sizeLine
  d : d.depth ≤ 40
def rRepG (K : PySem.W.Frag) : List V → Hp → VK → Prop := fun xs H Q => ∃ (v : V) (d : PyData), xs = [v] ∧ Dp K H v d ∧ Shn d ∧ Q (.str d.shown) H
theorem call_reprG {X : Cx} (hg : X.A.guards = some []) (hu : X.A.units + 64 < cLine) : CallR X (.builtin "repr") (rRepG X.K) := by
  intro pins s σ H xs us Q I r h
  obtain ⟨v, d, rfl, hd, hs, q⟩ := h
  obtain ⟨t, h1, h2, h3, h4⟩ := dp_ap hd
  refine call_reprA hg hu pins s σ H _ us Q I r ⟨v, t, rfl, h1, by rw [h2]; exact hs.s, by rw [h3]; exact hs.w, by rw [h2]; exact hs.d, ?_⟩
  rw [h4]
  exact q
end
theorem dw_ints : ∀ {ns : List Int}, (∀ x ∈ ns, -1000000 ≤ x ∧ x ≤ 1000000) → PyData.showableAll (ns.map PyData.int) = true ∧ dwAll (ns.map PyData.int) ≤ 15 * ns.length ∧ PyData.depthAll (ns.map PyData.int) = 0
  | [], _ => ⟨by rw [List.map_nil, PyData.showableAll], by rw [List.map_nil, dwAll]; exact Nat.le_refl _, by rw [List.map_nil, PyData.depthAll]⟩
  | x :: r, h => by
    obtain ⟨a, b, c⟩ := dw_ints fun y hy => h y (List.mem_cons_of_mem _ hy)
    have hx := h x List.mem_cons_self
    have h1 : PyData.showable (.int x) = true := by
      rw [PyData.showable]
      refine decide_eq_true ?_
      have h1 : x.natAbs < 2 ^ 20 := by
        have : (2 : Nat) ^ 20 = 1048576 := by decide
        omega
      by_cases c : x.natAbs = 0
      · rw [c]
        decide
      · exact Nat.lt_trans ((Nat.log2_lt c).mpr h1) (by decide)
    have h2 : (PyData.shown (.int x)).length ≤ 13 := PyData.shown_int_le2 (by omega) (by omega)
    refine ⟨?_, ?_, ?_⟩
    · rw [List.map_cons, PyData.showableAll, h1, a]
      rfl
    · rw [List.map_cons, dwAll, List.length_cons]
      have : dw (.int x) = (PyData.shown (.int x)).length := by rw [dw] <;> nofun
      omega
    · rw [List.map_cons, PyData.depthAll, c, PyData.depth]
      rfl
theorem dw_rows : ∀ {ls : List (List Int)}, (∀ l ∈ ls, l.length ≤ 1000 ∧ ∀ x ∈ l, -1000000 ≤ x ∧ x ≤ 1000000) → PyData.showableAll (ls.map fun l => .list (l.map PyData.int)) = true ∧ dwAll (ls.map fun l => .list (l.map PyData.int)) ≤ 15100 * ls.length ∧ PyData.depthAll (ls.map fun l => .list (l.map PyData.int)) ≤ 1
  | [], _ => ⟨by rw [List.map_nil, PyData.showableAll], by rw [List.map_nil, dwAll]; exact Nat.le_refl _, by rw [List.map_nil, PyData.depthAll]; exact Nat.zero_le _⟩
  | x :: r, h => by
    obtain ⟨a, b, c⟩ := dw_rows fun y hy => h y (List.mem_cons_of_mem _ hy)
    obtain ⟨hl, hx⟩ := h x List.mem_cons_self
    obtain ⟨a1, b1, c1⟩ := dw_ints hx
    refine ⟨?_, ?_, ?_⟩
    · rw [List.map_cons, PyData.showableAll, PyData.showable, a1, a]
      rfl
    · rw [List.map_cons, dwAll, dw, List.length_cons]
      omega
    · rw [List.map_cons, PyData.depthAll, PyData.depth, c1]
      exact Nat.max_le.mpr ⟨by omega, c⟩
theorem shn_rows {ls : List (List Int)} (h : ∀ l ∈ ls, l.length ≤ 1000 ∧ ∀ x ∈ l, -1000000 ≤ x ∧ x ≤ 1000000) (k : ls.length ≤ 100) : Shn (.list (ls.map fun l => .list (l.map PyData.int))) := by
  obtain ⟨a, b, c⟩ := dw_rows h
  have hz : sizeLine = 16777216 := by decide
  refine ⟨?_, ?_, ?_⟩
  · rw [PyData.showable]
    exact a
  · rw [dw]
    omega
  · rw [PyData.depth]
    omega
/-! ### defs that are called while nothing is being shown -/
section
open PySem.Spec PyProof.Rows
/-- a def's promise where no repr is under way -/
structure FnG (P : Program) (w : World) (K : PySem.W.Frag) (mg : Str → Option Value) (base : Heap) (CX : CXT) (k : Nat) (f : Addr) (fd : FuncData) (ps : List Str) (sp : Sp) : Prop where
  len : ∀ vs H Q E, sp vs H Q E → vs.length = ps.length
  run : ∀ (A : Around) (outer : List Env) (s : Shared) (H : Hp) (args : Args) (us : List Value) (vs : List V) (Q : VK) (E : XK), A.guards = some [] → Room k A → Env0 P w K mg base A outer s H → BindsTo s fd args (ps.zip us) → Vals vs us → sp vs H Q E →
    codeAny (model P w) A (.call (.ref f) args) (CR CX outer P w H s Q E) s
variable {P : Program} {w : World} {K : PySem.W.Frag} {mg : Str → Option Value} {base : Heap} {CX : CXT} {k : Nat} {f : Addr} {fd : FuncData} {N ps : List Str} {sp : Sp}
theorem FnG.of (F : FnOk P w K mg base CX k f fd ps sp) : FnG P w K mg base CX k f fd ps sp := ⟨F.len, fun A outer s H args us vs Q E _ => F.run A outer s H args us vs Q E⟩
theorem okG {x qual : Str} {st : Stmt} (F : Fun K x qual st f fd) (S : FnScope N ps (defScope st)) (len : ∀ vs H Q E, sp vs H Q E → vs.length = ps.length)
    (body : ∀ (cdv : Value) (A : Around) (outer : List Env) (s : Shared) (H : Hp) (vs : List V) (Q : VK) (E : XK), A.guards = some [] → Room k (A.deeper (envOfC qual (defScope st) s.heap.objs.size f cdv)) → sp vs H Q E →
      ∃ t, PSs (cxOf CX0 P w K mg base N qual (defScope st) f cdv A outer s H E).nox (defBody st) t ∧ t { nx := fun _ H' => Q .non H', rt := Q } (L2.start N vs) H) : FnG P w K mg base CX0 (k + 1) f fd ps sp := by
  obtain ⟨oc, od, kV, doc, pm, an, cdv, ct, osl, rfl, lk, hcd⟩ := F.ex
  refine ⟨len, fun A outer s H args us vs Q E hgd hr e0 hb r hsp => ?_⟩
  have keeps : ∀ b o, base.get? b = some o → s.heap.get? b = some o := fun b o e => (e0.bs b o e).1
  have KX : K.In s.heap := e0.mod.kin.keeps keeps
  have kinds : ∀ y ∈ ps.zip us, (defScope st).names.lookup y.1 = some .local ∨ ((defScope st).names.lookup y.1 = some .cell ∧ ((cellsFrom (s.heap.objs.size + 1) (defScope st).names []).lookup y.1).isSome = true) := by
    rintro ⟨n, v⟩ hy
    rcases S.par n (List.of_mem_zip hy).1 with q | q
    · exact .inl q
    · exact .inr ⟨q, PySem.W.cellsFrom_some _ _ _ (.inl q)⟩
  refine codeAny_call_function hr.depth (KX _ _ lk) rfl S.co S.gen rfl (PySem.W.codeRec_of KX hcd) (hb _ _ _ _ (wpAny_newFunctionEnv_cells S.kind kinds fun env he s1 x => ?_))
  subst he
  refine ⟨(e0.mod.nolimit.keeps keeps).keeps x.toInCall.keep, codeAny_func ?_⟩
  obtain ⟨t, ht, hq⟩ := body cdv A outer s H vs Q E hgd (hr.deeper _) hsp
  have I := inv_start (CX := CX0) (E := E) S hr.hd e0 (len _ _ _ _ hsp) r x
  refine wpAny_mono (ht.nox.run [] s1 (L2.start N vs) H _ I hq) (fun fl s' z => ?_) fun e s' z => z
  cases fl with
  | ret u =>
    obtain ⟨v, σ', H', J, rv, z⟩ := z
    exact ⟨v, H', J.os, J.bare, J.base, J.hok, rv, z⟩
  | next =>
    obtain ⟨σ', H', J, z⟩ := z
    exact ⟨V.non, H', J.os, J.bare, J.base, J.hok, rfl, z⟩
  | brk =>
    obtain ⟨_, _, _, z⟩ := z
    exact z.elim
  | cont =>
    obtain ⟨_, _, _, z⟩ := z
    exact z.elim
variable {X : Cx} {dvs : List V} {ds : List Value} {E : XK} {x : Str} {p pos : Pos} {e : Expr} {es : List Expr} {t : TA}
theorem pe_callG (F : FnG X.prog X.w X.K X.mg X.base CX k f fd ps sp) (gd : X.A.guards = some []) (hr : Room k X.A) (hg : Gl X x) (hm : X.mg x = some (.ref f)) (hk : PySem.W.keepIn X.K (.ref f) = true) (hb : Binds X.K fd ps ds) (hd : Vals dvs ds) (hx : Passes CX X E) (ha : PA X (e :: es) t)
    (hdb : (x == ("__debug__" : Str)) = false := by decide) (he : starEach (e :: es) X.env = (false, eval e X.env) :: starEach es X.env := by rfl) (hpl : (backTo pos (starEach es X.env)).any (·.1) = false := by rfl) : PE X (.Call (.Name x p) (e :: es) [] pos) (tCall sp dvs E t) := by
  refine ⟨fun pins s σ H Q I h => wpAny_Call_Name_kw (ld_glob I hg hm ?_ hdb)⟩
  refine PySem.W.callWith_K (h₀ := X.base) I.ok.mod.kin hk (thn (ha.run pos pins s σ H _ I h) fun us s1 ⟨vs, H1, J, r, q⟩ => ⟨J.kIn, ?_⟩) he hpl
  have r2 : Vals (vs ++ dvs) (us ++ ds) := r.append hd
  refine wpAny_call (codeAny_mono (F.run X.A X.stack s1 H1 ⟨us, []⟩ (us ++ ds) (vs ++ dvs) Q E gd hr J.env0 (hb s1 us J.kIn (by rw [← r2.length]; exact F.len _ _ _ _ q)) r2 q) fun z s' hz => ?_)
  cases z with
  | error u => exact hx pins σ H1 s1 u s' J hz
  | ok fl =>
    cases fl with
    | ret u => exact J.after hz
    | next => exact hz.elim
    | brk => exact hz.elim
    | cont => exact hz.elim
end
section
open PySem.Spec PyProof.Rows
/-- the law's own call: nothing is being shown around it -/
theorem law_callG {P : Program} {w : World} {K : PySem.W.Frag} {mg mb : Str → Option Value} {k : Nat} {fa a : Addr} {fd : FuncData} {x : Str} {sp : Sp} {s1 : Shared} {vs : List Value} {ns : List Int} (KX : K.In s1.heap) (hns : s1.heap.Ns mainGlobals mg) (hb : s1.heap.Ns builtinsNs mb)
    (hbb : ∀ x : Str, x ≠ "__name__" → mb x = bootBuiltins x) (hlim : s1.heap.NoLimit) (hg : s1.gens = #[]) (ha : s1.heap.get? a = some { cls := .type "list", data := .seq vs.toArray }) (hi : IntsAre vs ns) (hl : ns.length ≤ sizeLine) (hr : Room k callerA)
    (F : ∀ base : Heap, K.In base → base.Ns mainGlobals mg → FnG P w K mg base CX0 k fa fd [x] sp) (hbind : ∀ (s : Shared) (u : Value), BindsTo s fd ⟨[u], []⟩ [(x, u)]) (hsp : ∀ H : Hp, Only H → SqL K H a (ns.map V.int) → sp [.ref a] H (fun v _ => v = .bl true) fun _ _ _ => False)
    : codeAny (model P w) callerA (.call (.ref fa) ⟨[.ref a], []⟩) (fun r s' => r = .ok (.ret (.bool true)) ∧ OldK s1.heap s'.heap ∧ s'.os = s1.os ∧ AllBare s'.gens) s1 := by
  have rv := vals_ints hi
  have lv := hi.length
  have main : ∀ H : Hp, Only H → SqL K H a (ns.map V.int) → HOk P w H s1.heap → (∀ b u, H b = some u → b = a) → (∀ u, H a = some u → K.lookup a = none) →
      codeAny (model P w) callerA (.call (.ref fa) ⟨[.ref a], []⟩) (fun r s' => r = .ok (.ret (.bool true)) ∧ OldK s1.heap s'.heap ∧ s'.os = s1.os ∧ AllBare s'.gens) s1 := by
    intro H hO hS hok hA hK
    have isn : ∀ {b : Addr}, b ≠ a → H b = none := fun {b} n => by
      cases q : H b with
      | none => rfl
      | some u => exact absurd (hA b u q) n
    have bn : ∀ {b : Addr} {m : Str → Option Value}, s1.heap.Ns b m → (hidT s1.heap H).Ns b m := by
      rintro b m ⟨o, es, ep, e, d, r⟩
      refine ⟨o, es, ep, hidT_get e (isn fun z => ?_), d, r⟩
      rw [z, ha] at e
      cases e
      cases d
    have bK : K.In (hidT s1.heap H) := fun b o e => hidT_get (KX b o e) (by
      cases q : H b with
      | none => rfl
      | some u =>
        have z := hA b u q
        subst z
        rw [hK u q] at e
        cases e)
    have lm : (hidT s1.heap H).NoLimit := by
      obtain ⟨mc, h1, h2⟩ := hlim
      exact ⟨mc, bn h1, h2⟩
    have e0 : Env0 P w K mg (hidT s1.heap H) callerA [] s1 H := ⟨rfl, ⟨bK, bn hns, ⟨mb, bn hb, hbb⟩, lm⟩, fun b o e => of_hidT e, Nat.le_of_eq (hidT_size _ _), trivial, (fun b z => nomatch z), hok, .of_eq hg⟩
    refine codeAny_mono ((F _ bK (bn hns)).run callerA [] s1 H ⟨[.ref a], []⟩ [.ref a] [.ref a] _ _ rfl hr e0 (hbind s1 (.ref a)) (.cons rfl .nil) (hsp H hO hS)) fun r s' h => ?_
    cases r with
    | error e => exact False.elim h
    | ok fl =>
      cases fl with
      | next => exact False.elim h
      | brk => exact False.elim h
      | cont => exact False.elim h
      | ret u =>
        obtain ⟨v, H', os, bare, un, hok', r', q⟩ := h
        have qv : v = .bl true := q
        subst qv
        obtain rfl : u = Value.bool true := r'
        refine ⟨rfl, OldK.of_keep fun b o e => ?_, os, bare⟩
        cases q : H b with
        | none => exact un.keep b o e q (fun z => nomatch z) (fun z => nomatch z)
        | some u =>
          rcases hO b with z | ⟨ob, xs, z⟩
          · rw [z] at q
            cases q
          · obtain ⟨e1, _⟩ := hok b _ z
            obtain ⟨e2, _⟩ := hok' b _ (un.frzs b ob _ z)
            rw [e1] at e
            cases e
            exact e2
  cases hk : K.lookup a with
  | some o =>
    have e := (KX a o hk).symm.trans ha
    cases e
    exact main (fun _ => none) (fun _ => .inl rfl) (.inr ⟨_, vs.toArray, _, hk, rfl, rfl, rfl, by rw [List.size_toArray, lv]; exact hl, by simpa using rv⟩) (fun b u z => nomatch z) (fun b u z => nomatch z) fun u z => nomatch z
  | none =>
    have gA : ∀ b u, (if b = a then some (HO.frz { cls := .type "list", data := .seq vs.toArray } (.lst (ns.map V.int))) else none) = some u → b = a ∧ u = HO.frz { cls := .type "list", data := .seq vs.toArray } (.lst (ns.map V.int)) := by
      intro b u z
      by_cases c : b = a
      · rw [if_pos c] at z
        exact ⟨c, (Option.some.inj z).symm⟩
      · rw [if_neg c] at z
        cases z
    refine main (fun b => if b = a then some (.frz { cls := .type "list", data := .seq vs.toArray } (.lst (ns.map V.int))) else none) (fun b => ?_) (.inl (.inr ⟨{ cls := .type "list", data := .seq vs.toArray }, if_pos rfl⟩)) (fun b u z => ?_) (fun b u z => (gA b u z).1) fun _ _ => hk
    · by_cases c : b = a
      · exact .inr ⟨_, _, if_pos c⟩
      · exact .inl (if_neg c)
    · obtain ⟨rfl, rfl⟩ := gA b u z
      exact ⟨ha, by rw [List.length_map]; exact hl, vs, _, rv, ha⟩
theorem walk_ofG {l : PySem.W.OpenLaw} {n k : Nat} {q : Program} {loose : List Str} {XP : (Str → Option Value) → Heap → Prop} {YP : World → Heap → Prop} {d : DefRec} {K : Params → PySem.W.Frag} {sp : World → Sp} {x : Str} (hn : l.most = some n) (hn2 : n ≤ sizeLine) (hdf : d.params.defaults = []) (hr : Room k callerA)
    (hY : ∀ (w : World) (h : Heap), YP w h → (K w.params).In h)
    (F : ∀ (w : World) (mg : Str → Option Value) (fa : Addr) (h : Heap), (K w.params).In h → h.Ns mainGlobals mg → mg d.name = some (.ref fa) → ∃ fd : FuncData, (∀ (s : Shared) (u : Value), BindsTo s fd ⟨[u], []⟩ [(x, u)]) ∧ ∀ base : Heap, (K w.params).In base → base.Ns mainGlobals mg → FnG l.prog w (K w.params) mg base CX0 k fa fd [x] (sp w))
    (hsp : ∀ (w : World) (H : Hp) (a : Addr) (ns : List Int), ns.length ≤ n → Only H → SqL (K w.params) H a (ns.map V.int) → sp w [.ref a] H (fun v _ => v = .bl true) fun _ _ _ => False) : PySem.W.WalkO q loose XP YP l.row.toRowW d [] (fun f vs => PySem.call f vs) := by
  refine Att.attach_call hn hdf fun w s₀ s1 mg mb fa o pm cd doc a vs ns G Y ho hd hcd hmg hobj hints hlen hg => ?_
  obtain ⟨fd, hb, hF⟩ := F w mg fa _ (hY w _ Y) G.T.g hmg
  exact law_callG (hY w _ Y) G.T.g G.T.b G.T.builtins G.T.nolimit hg hobj hints (Nat.le_trans hlen hn2) hr hF hb fun H hO hS => hsp w H a ns hlen hO hS
end
theorem ned_ints {K : PySem.W.Frag} {H : Hp} {a b : Addr} {ns ms : List Int} {Q : VK} (ha : SqL K H a (ns.map V.int)) (hb : SqL K H b (ms.map V.int)) (q : Q (.bl (!decide (ns = ms))) H) : rNeD K (.ref a) (.ref b) H Q := by
  refine ⟨_, _, .lst ha (dp_ints ns), .lst hb (dp_ints ms), PySem.W.ke_shaped_ints ns, PySem.W.ke_shaped_ints ms, ?_⟩
  have e : PyData.eqv (.list (ns.map PyData.int)) (.list (ms.map PyData.int)) = decide (ns = ms) := by
    rw [PyData.eqv]
    exact eqv_ints ns ms
  rw [e]
  exact q
/-! ### long division of rows, as the program walks it -/
def subAt (start : Nat) (top : Int) (bs : List Int) (r : List Int) : Nat → List Int
  | 0 => r
  | i + 1 => (subAt start top bs r i).set (start + i) ((subAt start top bs r i).getD (start + i) 0 - top * bs.getD i 0)
theorem subAt_len {start : Nat} {top : Int} {bs r : List Int} {i : Nat} : (subAt start top bs r i).length = r.length := by
  induction i with
  | zero => rfl
  | succ i ih => rw [subAt, List.length_set, ih]
def dvS (bs : List Int) (x : List Int × List Int) : List Int × List Int :=
  (subAt (x.1.length - 1 - (bs.length - 1)) (x.1.getD (x.1.length - 1) 0) bs x.1.dropLast (bs.length - 1), x.2 ++ [x.1.getD (x.1.length - 1) 0])
def dvN (bs : List Int) (row : List Int) : Nat → List Int × List Int
  | 0 => (row, [])
  | n + 1 => dvS bs (dvN bs row n)
theorem dvN_len {bs row : List Int} {n : Nat} : (dvN bs row n).1.length = row.length - n ∧ (dvN bs row n).2.length = n := by
  induction n with
  | zero => exact ⟨rfl, rfl⟩
  | succ n ih =>
    rw [dvN, dvS]
    refine ⟨?_, ?_⟩
    · show (subAt _ _ _ _ _).length = _
      rw [subAt_len, List.length_dropLast, ih.1]
      omega
    · show List.length (_ ++ _) = _
      rw [List.length_append, ih.2]
      rfl
theorem at_nat {xs : List V} {v : V} {i : Int} {j : Nat} (h : xs[j]? = some v) (e : i = (j : Int)) : atI xs i = some v := at_of (j := j) (by omega) (by rw [← h])
theorem at_map {ns : List Int} {i : Int} {j : Nat} (h : j < ns.length) (e : i = (j : Int)) : atI (ns.map V.int) i = some (.int (ns.getD j 0)) := by
  refine at_nat ?_ e
  rw [List.getElem?_map, List.getD_eq_getElem?_getD, List.getElem?_eq_getElem h]
  rfl
theorem ixn_of {n j : Nat} {i : Int} (h : j < n) (e : i = (j : Int)) : ixN n i = some j := by
  subst e
  unfold ixN
  simp [h]
theorem rep_len {n : Nat} {v : V} : (List.replicate n [v]).flatten.length = n := by
  induction n with
  | zero => rfl
  | succ n ih =>
    rw [List.replicate_succ, List.flatten_cons, List.length_append, ih]
    show 1 + n = n + 1
    omega
/-- the share of row by bs -/
def dvQ (bs row : List Int) : List Int := (dvN bs row (row.length - (bs.length - 1))).2.reverse
/-- the rest of row by bs -/
def dvR (bs row : List Int) : List Int := (dvN bs row (row.length - (bs.length - 1))).1 ++ List.replicate (bs.length - 1 - (dvN bs row (row.length - (bs.length - 1))).1.length) 0
theorem rep_flat2 {n : Nat} {v : V} : (List.replicate n [v]).flatten = List.replicate n v := by
  induction n with
  | zero => rfl
  | succ n ih =>
    rw [List.replicate_succ, List.flatten_cons, ih]
    rfl
section
open PySem.Spec PyProof.Rows
variable {P : Program} {w : World} {K : PySem.W.Frag} {mg : Str → Option Value} {base : Heap}
theorem fnsub {CX : CXT} {k : Nat} {f : Addr} {fd : FuncData} {ps : List Str} {sp sp1 : Sp} (G1 : FnOk P w K mg base CX k f fd ps sp1) (h : ∀ vs H Q E, sp vs H Q E → sp1 vs H Q E) : FnOk P w K mg base CX k f fd ps sp :=
  ⟨fun vs H Q E x => G1.len vs H Q E (h vs H Q E x), fun A outer s H args us vs Q E hr e0 hb r x => G1.run A outer s H args us vs Q E hr e0 hb r (h vs H Q E x)⟩
end
abbrev s__law_folded : Stmt := top 21
abbrev N__law_folded : List Str := ["_law_script", "_law_count", "_law_cells", "_law_k", "_law_cell"]
abbrev P__law_folded : List Str := ["_law_script", "_law_count"]
theorem sc__law_folded : FnScope N__law_folded P__law_folded (defScope s__law_folded) := ⟨rfl, rfl, rfl, by decide +kernel, rfl, by decide +kernel, by decide +kernel⟩
def spFold (K : PySem.W.Frag) : Sp := fun vs H Q _ => ∃ (a : Addr) (ns : List Int), vs = [.ref a, .int 4] ∧ SqL K H a (ns.map V.int) ∧ ns.length ≤ 63 ∧ ∀ p (cs : List Int) H', 1 ≤ cs.length → cs.length ≤ 4 → H p = none → Same H H' → H' p = some (.lst (cs.map V.int)) → Q (.ref p) H'
section
variable {P : Program} {w : World} {K : PySem.W.Frag} {mg : Str → Option Value} {base : Heap}
theorem ok_fold {f : Addr} {fd : FuncData} {k : Nat} (F : Fun K "_law_folded" "_law_folded" s__law_folded f fd) (T : Blt mg) : FnOk P w K mg base CX0 (k + 1) f fd P__law_folded (spFold K) := by
  have nd := sc__law_folded.nd
  refine F.ok sc__law_folded (fun vs H Q E h => ?_) (fun cdv A outer s H vs Q E hr h => ?_)
  · obtain ⟨a, ns, rfl, _⟩ := h
    rfl
  · obtain ⟨a, ns, rfl, hL, hlen, q⟩ := h
    refine ⟨_, (pss_cons (ps_set (i := 2) nd rfl (Or.inl rfl) (pe_callTy call_list_of (by rfl) T.b_list (by decide +kernel) (pa_cons (pe_slice (r := rSlL K) sl_list (pv 0) po_none (po_some (pv 1))) pa_nil)))
      (pss_cons (ps_for PassesOwn.never rfl (pi_enum (by rfl) T.b_enumerate (pa_cons (pe_slice (r := rSlL K) sl_list (pv 0) (po_some (pv 1)) (po_some (pe_int))) pa_nil)) (pg_tup (by rfl) (pgs_cons (pg_name (i := 3) nd rfl (Or.inl rfl)) (pgs_cons (pg_name (i := 4) nd rfl (Or.inl rfl)) pgs_nil)))
      (pss_one (ps_asg (pe_op op_add (pe_ix (r := rIxL K) ix_list (pv 2) (pe_op op_mod (pv 3) (pv 1)) (fun _ _ => rfl)) (pe_op op_mul (pv 4) (pe_op op_add (pv 3) (pe_int)))) (pg_sub (pv 2) (pe_op op_mod (pv 3) (pv 1)) set_list))))
      (pss_one (ps_ret (pe_ifExp (pt_cmpR (r := rNeD K) (op_neD hr.units) (pv 2) (pe_lst pa_nil) (nomark _)) (pv 2) (pe_lst (pa_cons (pe_int) pa_nil))))))), ?_⟩
    have e1 : cutV (ns.map V.int) none (some 4) = (ns.take (min 4 ns.length)).map V.int := by
      rw [List.map_take]
      have : cutV (ns.map V.int) none (some 4) = (ns.map V.int).take (min 4 (ns.map V.int).length) := rfl
      rw [this, List.length_map]
    have e2 : cutV (ns.map V.int) (some 4) (some 63) = ((ns.drop (min 4 ns.length)).take (min 63 ns.length - min 4 ns.length)).map V.int := by
      rw [List.map_take, List.map_drop]
      have : cutV (ns.map V.int) (some 4) (some 63) = ((ns.map V.int).drop (min 4 (ns.map V.int).length)).take (min 63 (ns.map V.int).length - min 4 (ns.map V.int).length) := rfl
      rw [this, List.length_map]
    have hl0 : (ns.take (min 4 ns.length)).length = min 4 ns.length := by rw [List.length_take]; omega
    have hl9 : ((ns.drop (min 4 ns.length)).take (min 63 ns.length - min 4 ns.length)).length = ns.length - min 4 ns.length := by
      rw [List.length_take, List.length_drop]
      omega
    generalize (ns.drop (min 4 ns.length)).take (min 63 ns.length - min 4 ns.length) = ms at *
    generalize ns.take (min 4 ns.length) = c0 at *
    walk_at "ev"
    intro p1 hp1
    generalize hG : upd _ p1 _ = H1
    obtain ⟨sm1, hq1⟩ := newO hG hp1
    clear hG
    rw [e1] at hq1
    have hl1 : SqL K H1 p1 (c0.map V.int) ∨ SqT K H1 p1 (c0.map V.int) := .inl (SqL.of hq1)
    walk_at "ev"
    intro p2 hp2
    generalize hG : upd _ p2 _ = H2
    obtain ⟨sm2, hq2⟩ := newO hG hp2
    clear hG
    have sm02 := sm1.trans sm2
    have hL2 := sm02.seq hL
    have hp20 : H p2 = none := sm1.free hp2
    walk_at "ev"
    intro p3 hp3
    generalize hG : upd _ p3 _ = H3
    obtain ⟨sm3, hq3⟩ := newO hG hp3
    clear hG
    rw [e2] at hq3
    have hL3 : SqL K H3 p3 (ms.map V.int) := SqL.of hq3
    have n32 : p3 ≠ p2 := (ne_of_none hq2 hp3).symm
    refine ⟨p3, _, rfl, hL3, for_enumL (K := K) (a := p3) (xs := ms.map V.int) (fun i σ H' => Hold (∃ (cs : List Int) (s3 s4 : Option V), σ = [some (.ref a), some (.int 4), some (.ref p2), s3, s4] ∧ cs.length = min 4 ns.length ∧ Same H H' ∧ H' p3 = some (.lst (ms.map V.int)) ∧ H' p2 = some (.lst (cs.map V.int)))) (.mk ⟨c0, none, none, rfl, hl0, sm02.trans sm3, hq3, sm3 _ _ hq2⟩) ?_ ?_ ?_⟩
    · intro i σ H4 hP
      obtain ⟨cs, s3, s4, rfl, hcl, sm4, h3, h2⟩ := hP.un
      exact SqL.of h3
    · intro i v T' σ H4 hv hP hT
      obtain ⟨cs, s3, s4, rfl, hcl, sm4, h3, h2⟩ := hP.un
      rw [List.getElem?_map] at hv
      obtain ⟨x, hx, ev⟩ := Option.map_eq_some_iff.mp hv
      subst ev
      have hil : i < ms.length := (List.getElem?_eq_some_iff.mp hx).1
      have hc4 : cs.length = 4 := by omega
      generalize hG : upd _ T' _ = H5
      obtain ⟨sm5, hq5⟩ := newO hG hT
      clear hG
      have hT5 : SqT K H5 T' [.int (i : Nat), .int x] := SqT.of hq5
      have h25 := sm5 _ _ h2
      have hL25 : SqL K H5 p2 (cs.map V.int) := SqL.of h25
      have hi4 : i % 4 < cs.length := by omega
      have hat : atI (cs.map V.int) ((i : Int) % 4) = some (.int cs[i % 4]) := at_of (j := i % 4) (by omega) (by rw [List.getElem?_map, List.getElem?_eq_getElem hi4]; rfl)
      have cm : CMul x ((i : Int) + 2) := .inr ⟨by omega, by omega⟩
      have hix : ixN (cs.map V.int).length ((i : Int) % 4) = some (i % 4) := ixn_of (by rw [List.length_map]; exact hi4) (by omega)
      walk_at "ev"
      refine .mk ⟨cs.set (i % 4) (cs[i % 4] + x * ((i : Int) + 2)), _, _, rfl, by rw [List.length_set]; exact hcl, same_mut (sm4.trans sm5) hp20, ?_, ?_⟩
      · rw [upd_ne n32]
        exact sm5 _ _ h3
      · rw [upd_same, List.map_set]
    · intro σ H4 hP
      obtain ⟨cs, s3, s4, rfl, hcl, sm4, h3, h2⟩ := hP.un
      walk_at "ev"
      intro p5 hp5
      generalize hG : upd _ p5 _ = H5
      obtain ⟨sm5, hq5⟩ := newO hG hp5
      clear hG
      have h25 := sm5 _ _ h2
      refine ned_ints (ns := cs) (ms := []) (SqL.of h25) (SqL.of hq5) ?_
      by_cases c : cs = []
      · rw [decide_eq_true c]
        walk_at "ev"
        intro p6 hp6
        generalize hG : upd _ p6 _ = H6
        obtain ⟨sm6, hq6⟩ := newO hG hp6
        exact q p6 [0] _ (by decide) (by decide) ((sm4.trans sm5).free hp6) (sm4.trans (sm5.trans sm6)) hq6
      · rw [decide_eq_false c]
        have hc1 : 0 < cs.length := List.length_pos_iff.mpr c
        walk_at "ev"
        exact q p2 cs _ (by omega) (by omega) hp20 (sm4.trans sm5) h25
end
/-! ### things, by what they are -/
def intD : PyData → Bool
  | .int _ => true
  | _ => false
def tyD : PyData → String
  | .none => "NoneType"
  | .bool _ => "bool"
  | .int _ => "int"
  | .str _ => "str"
  | .list _ => "list"
  | .tuple _ => "tuple"
  | .dict _ => "dict"
theorem kdD {K : PySem.W.Frag} {H : Hp} {v : V} {d : PyData} (h : Dp K H v d) : Kd K H v (tyD d) := by
  cases h with
  | non => exact .non
  | bl b => exact .bl b
  | int i => exact .int i
  | str x => exact .str x
  | lst h _ => exact .lst h
  | tup h _ => exact .tup h
theorem tyD_int (d : PyData) : (tyD d == "int") = intD d := by
  cases d <;> rfl
/-! ### small things -/
structure Sm (B k : Nat) (d : PyData) : Prop where
  l : d.canLay0 = true
  s : d.showable = true
  w : dw d ≤ B
  p : d.depth ≤ k
theorem Sm.up {B k B' k' : Nat} {d : PyData} (h : Sm B k d) (e : B ≤ B') (f : k ≤ k') : Sm B' k' d := ⟨h.l, h.s, Nat.le_trans h.w e, Nat.le_trans h.p f⟩
theorem sm_all {B k : Nat} : ∀ {ds : List PyData}, (∀ d ∈ ds, Sm B k d) → PyData.canLayAll0 ds = true ∧ PyData.showableAll ds = true ∧ dwAll ds ≤ (B + 2) * ds.length ∧ PyData.depthAll ds ≤ k
  | [], _ => ⟨by rw [PyData.canLayAll0], by rw [PyData.showableAll], by rw [dwAll]; exact Nat.zero_le _, by rw [PyData.depthAll]; exact Nat.zero_le _⟩
  | d :: r, h => by
    obtain ⟨a, b, c, e⟩ := sm_all fun x hx => h x (List.mem_cons_of_mem _ hx)
    have hd := h d List.mem_cons_self
    refine ⟨by rw [PyData.canLayAll0, hd.l, a]; rfl, by rw [PyData.showableAll, hd.s, b]; rfl, ?_, by rw [PyData.depthAll]; exact Nat.max_le.mpr ⟨hd.p, e⟩⟩
    have := hd.w
    rw [dwAll, List.length_cons, Nat.mul_succ]
    omega
theorem Sm.lst {B k n : Nat} {ds : List PyData} (hn : ds.length ≤ n) (h : ∀ d ∈ ds, Sm B k d) : Sm (6 + (B + 2) * n) (k + 1) (.list ds) := by
  obtain ⟨a, b, c, e⟩ := sm_all h
  have := Nat.mul_le_mul_left (B + 2) hn
  exact ⟨by rw [PyData.canLay0]; exact a, by rw [PyData.showable]; exact b, by rw [dw]; omega, by rw [PyData.depth]; omega⟩
theorem Sm.tup {B k n : Nat} {ds : List PyData} (hn : ds.length ≤ n) (h : ∀ d ∈ ds, Sm B k d) : Sm (6 + (B + 2) * n) (k + 1) (.tuple ds) := by
  obtain ⟨a, b, c, e⟩ := sm_all h
  have := Nat.mul_le_mul_left (B + 2) hn
  exact ⟨by rw [PyData.canLay0]; exact a, by rw [PyData.showable]; exact b, by rw [dw]; omega, by rw [PyData.depth]; omega⟩
theorem Sm.shn {B k : Nat} {d : PyData} (h : Sm B k d) (e : B ≤ 16777216) (f : k ≤ 40) : Shn d := by
  have hz : sizeLine = 16777216 := by decide
  exact ⟨h.s, by have := h.w; omega, Nat.le_trans h.p f⟩
theorem Sm.shaped {B k : Nat} {d : PyData} (h : Sm B k d) (f : k ≤ 64) : SeqAt.shaped d = true := by
  unfold SeqAt.shaped
  rw [h.l, decide_eq_true (Nat.le_trans h.p f)]
  rfl
theorem sm_int {i : Int} (h : i.natAbs ≤ 100000000000) : Sm 13 0 (.int i) := by
  have h1 : PyData.showable (.int i) = true := by
    rw [PyData.showable]
    refine decide_eq_true ?_
    have h1 : i.natAbs < 2 ^ 40 := by
      have : (2 : Nat) ^ 40 = 1099511627776 := by decide
      omega
    by_cases c : i.natAbs = 0
    · rw [c]
      decide
    · exact Nat.lt_trans ((Nat.log2_lt c).mpr h1) (by decide)
  have h2 : (PyData.shown (.int i)).length ≤ 13 := PyData.shown_int_le2 (by omega) (by omega)
  have h3 : dw (.int i) = (PyData.shown (.int i)).length := by rw [dw] <;> nofun
  exact ⟨by rw [PyData.canLay0], h1, by omega, by rw [PyData.depth]; exact Nat.le_refl _⟩
theorem sm_non : Sm 13 0 .none := ⟨by rw [PyData.canLay0], by rw [PyData.showable], by decide +kernel, by rw [PyData.depth]; exact Nat.le_refl _⟩
theorem sm_bl (b : Bool) : Sm 13 0 (.bool b) := ⟨by rw [PyData.canLay0], by rw [PyData.showable], by cases b <;> decide +kernel, by rw [PyData.depth]; exact Nat.le_refl _⟩
theorem sm_e : Sm 13 0 (.str "") := ⟨by decide +kernel, by rw [PyData.showable], by decide +kernel, by rw [PyData.depth]; exact Nat.le_refl _⟩
theorem sm_0 : Sm 13 0 (.str "0") := ⟨by decide +kernel, by rw [PyData.showable], by decide +kernel, by rw [PyData.depth]; exact Nat.le_refl _⟩
/-! ### xs[lo:hi:step] of a list or a tuple -/
section
open PySem.Spec PyProof.Rows
def pickL (xs : List V) (lo hi st : Option Int) : List V :=
  (sliceRange (sliceBounds lo hi st xs.length).1 (sliceBounds lo hi st xs.length).2.1 (sliceBounds lo hi st xs.length).2.2).filterMap (xs[·]?)
def pickT (xs : List V) (lo hi : Option Int) (st : Int) : List V :=
  (List.range (Builtin.Slice.slicePlaces (Builtin.Slice.sliceAdjust lo hi st (xs.length : Int)).1 (Builtin.Slice.sliceAdjust lo hi st (xs.length : Int)).2 st)).filterMap fun (m : Nat) => xs[((Builtin.Slice.sliceAdjust lo hi st (xs.length : Int)).1 + (m : Int) * st).toNat]?
theorem vals_pick {xs : List V} {us : List Value} (r : Vals xs us) : ∀ is : List Nat, Vals (is.filterMap (xs[·]?)) (is.filterMap (us[·]?))
  | [] => .nil
  | i :: is => by
    have hl := r.length
    by_cases h : i < xs.length
    · obtain ⟨w, ew, rw'⟩ := r.get (List.getElem?_eq_getElem h)
      rw [List.filterMap_cons, List.filterMap_cons, List.getElem?_eq_getElem h, ew]
      exact .cons rw' (vals_pick r is)
    · rw [List.filterMap_cons, List.filterMap_cons, List.getElem?_eq_none (by omega), List.getElem?_eq_none (by omega)]
      exact vals_pick r is
variable {X : Cx} {e : Expr} {te : TE} {lo hi st : Option Expr} {tl th ts : TO} {pos p2 : Pos}
def SlS (X : Cx) (r : V → Option Int → Option Int → Option Int → Hp → VK → Prop) : Prop :=
  ∀ (pins : List (Addr × Obj)) (s : Shared) (σ : L2.St) (H : Hp) (x : V) (v vl vu vs : Value) (lo hi st : Option Int) (sl : Addr) (Q : VK), Inv X pins σ H s → RelV x v → s.heap.IsSliceOf sl vl vu vs → IsPart vl lo → IsPart vu hi → IsPart vs st → r x lo hi st H Q →
    ∃ T id, typeLookup (.type T) "__getitem__" = pure (some (.builtin id)) ∧ s.TypeIs v T ∧ wpAny (model X.prog X.w) X.A (getItem v (.ref sl)) (EP X pins σ Q) X.xe s
def tStp (r : V → Option Int → Option Int → Option Int → Hp → VK → Prop) (te : TE) (tl th ts : TO) : TE := fun σ H Q => te σ H fun x H1 => tl σ H1 fun l H2 => th σ H2 fun u H3 => ts σ H3 fun st H4 => r x l u st H4 Q
theorem pe_step {se : Expr} {r : V → Option Int → Option Int → Option Int → Hp → VK → Prop} (hr : SlS X r) (he : PE X e te) (hl : PO X lo tl) (hu : PO X hi th) (hs : PO X (some se) ts) : PE X (.Subscript e (.Slice lo hi (some se) p2) pos) (tStp r te tl th ts) := by
  refine ⟨fun pins s σ H Q I h => ?_⟩
  refine Subscript_ (thn (he.run pins s σ H _ I h) fun v s1 ⟨x, H1, I1, r1, q1⟩ => ?_)
  refine wpAny_Slice (thn (hl.run pins s1 σ H1 _ I1 q1) fun vl s2 ⟨l, H2, I2, pl, q2⟩ => thn (hu.run pins s2 σ H2 _ I2 q2) fun vu s3 ⟨u, H3, I3, pu, q3⟩ => ?_)
  refine thn (hs.run pins s3 σ H3 _ I3 q3) fun vs s4 ⟨o, H4, I4, ps, q4⟩ => ?_
  have I5 : Inv X pins σ H4 { s4 with heap := s4.heap.push { cls := .type "slice", data := .fields #[vl, vu, vs] } } := I4.kept (t' := s4.toks) fun b ob q => Heap.get?_push_of_some _ q
  obtain ⟨T, id, hT, ht, hg⟩ := hr pins { s4 with heap := s4.heap.push { cls := .type "slice", data := .fields #[vl, vu, vs] } } σ H4 x v vl vu vs l u o s4.heap.objs.size Q I5 r1 (Heap.IsSliceOf.new ..) pl pu ps q4
  show wpAny (model X.prog X.w) X.A (subscriptTail e (.Slice lo hi (some se) p2) v (.ref s4.heap.objs.size)) (EP X pins σ Q) X.xe { s4 with heap := s4.heap.push { cls := .type "slice", data := .fields #[vl, vu, vs] } }
  exact tail_any (ops := [v, .ref s4.heap.objs.size]) ht hT hg (by with_unfolding_all rfl)
def rStL (K : PySem.W.Frag) : V → Option Int → Option Int → Option Int → Hp → VK → Prop := fun x lo hi st H Q => ∃ a xs, x = .ref a ∧ SqL K H a xs ∧ st ≠ some 0 ∧ ∀ p, H p = none → Q (.ref p) (upd H p (.lst (pickL xs lo hi st)))
theorem sl_stepL : SlS X (rStL X.K) := by
  intro pins s σ H x v vl vu vs lo hi st sl Q I rx hs pl pu ps h
  obtain ⟨a, xs, rfl, hx, h0, q⟩ := h
  cases rx
  obtain ⟨its, r, ht, hz⟩ := I.list hx
  have hlen := r.length
  refine ⟨"list", _, PySem.slot_list_getitem.lookup, ht.isList.typeIs, ?_⟩
  refine wpAny_getItem_list_slice ht.isList hs pl pu ps h0 ?_ (by rw [List.size_toArray]; omega)
  have e : slicePick its.toArray lo hi st = ((sliceRange (sliceBounds lo hi st xs.length).1 (sliceBounds lo hi st xs.length).2.1 (sliceBounds lo hi st xs.length).2.2).filterMap (its[·]?)).toArray := by
    unfold slicePick
    rw [List.size_toArray, hlen]
    simp
  have hle : (pickL xs lo hi st).length ≤ sizeLine := by
    have h1 := (vals_pick r (sliceRange (sliceBounds lo hi st xs.length).1 (sliceBounds lo hi st xs.length).2.1 (sliceBounds lo hi st xs.length).2.2)).length
    have h2 := slicePick_size_le its.toArray lo hi st
    rw [e, List.size_toArray, List.size_toArray] at h2
    unfold pickL
    omega
  rw [e]
  refine ⟨.ref _, _, I.laid (t' := s.toks) (o := .lst (pickL xs lo hi st)) (fun b ob q => Heap.get?_push_of_some _ q) (Nat.le_refl _) ?_, rfl, q _ (I.hok.fresh (Nat.le_refl _))⟩
  exact ⟨hle, _, 0, vals_pick r _, Heap.get?_push_size _ rfl⟩
end
section
open PySem.Spec PyProof.Rows HT
variable {prog : Program} {w : World} {A : Around} {E : Value → Shared → Prop} {s : Shared}
theorem sliceApplied_st {sl : Addr} {vl vu vs : Value} {lo hi : Option Int} {st : Int} {n : Nat} {Q : Int × Int × Nat → Shared → Prop} (hs : s.heap.IsSliceOf sl vl vu vs) (pl : IsPart vl lo) (pu : IsPart vu hi) (ps : IsPart vs (some st)) (h0 : st ≠ 0)
    (h : Q ((Builtin.Slice.sliceAdjust lo hi st (n : Int)).1, st, Builtin.Slice.slicePlaces (Builtin.Slice.sliceAdjust lo hi st (n : Int)).1 (Builtin.Slice.sliceAdjust lo hi st (n : Int)).2 st) s) : wpAny (model prog w) A (Builtin.Slice.sliceApplied (.ref sl) (pure (n : Int))) Q E s := by
  obtain ⟨os, hos, hcs, hds⟩ := id hs
  unfold Builtin.Slice.sliceApplied Builtin.Slice.sliceFields
  refine wpAny_bind (wpAny_bind (wpAny_field hos hds (x := vl) rfl (wpAny_bind (wpAny_field hos hds (x := vu) rfl (wpAny_bind (wpAny_field hos hds (x := vs) rfl (wpAny_pure ?_)))))))
  refine wpAny_bind (slicePart_ ps ?_)
  show wpAny _ _ (if (st == 0) = true then _ else _) _ _ s
  rw [if_neg (by simpa using h0)]
  refine wpAny_bind (slicePart_ pl (wpAny_bind (slicePart_ pu (wpAny_bind (wpAny_pure ?_)))))
  exact wpAny_pure h
theorem getItem_tuple_st {t sl : Addr} {items : Array Value} {vl vu vs : Value} {lo hi : Option Int} {st : Int} {Q : Value → Shared → Prop} (ht : IsTup s.heap t items) (hs : s.heap.IsSliceOf sl vl vu vs) (pl : IsPart vl lo) (pu : IsPart vu hi) (ps : IsPart vs (some st)) (h0 : st ≠ 0) (h1 : st ≠ 1)
    {us : List Value} (hus : (List.range (Builtin.Slice.slicePlaces (Builtin.Slice.sliceAdjust lo hi st (items.size : Int)).1 (Builtin.Slice.sliceAdjust lo hi st (items.size : Int)).2 st)).filterMap (fun (m : Nat) => items[((Builtin.Slice.sliceAdjust lo hi st (items.size : Int)).1 + (m : Int) * st).toNat]?) = us) (hz : us.length ≤ sizeLine)
    (h : Q (.ref s.heap.objs.size) { s with heap := s.heap.push { cls := .type "tuple", data := .seq us.toArray } }) : wpAny (model prog w) A (getItem (.ref t) (.ref sl)) Q E s := by
  have htake : sizeOk (.seq us.toArray) := by
    show us.toArray.size ≤ sizeLine
    rw [List.size_toArray]
    exact hz
  obtain ⟨os, hos, hcs, hds⟩ := id hs
  have hTs : s.TypeIs (.ref sl) "slice" := ⟨os, hos, hcs⟩
  unfold getItem
  try with_reducible refine wpAny_holding ?_
  first | refine wpAny_bind (wpAny_pure ?_) | skip
  refine wpAny_bind (wpAny_sequenceKey ht.typeIs (by decide) ?_)
  refine wpAny_bind (wpAny_callSpecial?_slot (name := Str.ofString "__getitem__") ht.typeIs PyProof.Rows.slot_tuple_getitem
    (wpAny_call_entry PyProof.Rows.slot_tuple_getitem ht.typeIs entry_tuple_getitem ?_ (args_tuple_getitem _ _)))
  show wpAny _ _ (Builtin.Tuple.tupleItemsOf (.ref t) >>= _) _ _ s
  refine wpAny_bind (tupleItemsOf_ ht ?_)
  refine wpAny_bind (wpAny_typeOf hTs ?_)
  rw [if_pos (by decide)]
  refine wpAny_bind (sliceApplied_st hs pl pu ps h0 ?_)
  have hno : ∀ (a : Int) (k : Nat), ¬ ((a == 0 && st == 1 && k == items.size) = true) := by
    intro a k q
    rw [Bool.and_eq_true, Bool.and_eq_true] at q
    exact h1 (eq_of_beq q.1.2)
  show wpAny _ _ (if ((Builtin.Slice.sliceAdjust lo hi st (items.size : Int)).1 == 0 && st == 1 && Builtin.Slice.slicePlaces (Builtin.Slice.sliceAdjust lo hi st (items.size : Int)).1 (Builtin.Slice.sliceAdjust lo hi st (items.size : Int)).2 st == items.size) = true then _ else _) _ _ s
  rw [if_neg (hno _ _)]
  dsimp only
  rw [hus]
  first
    | exact wpAny_bind (m := Builtin.Tuple.tupleExact _) (wpAny_newObj_type (wpAny_pure ⟨_, rfl, wpAny_pure h⟩) htake)
    | exact wpAny_bind (m := Builtin.Tuple.tupleExact _) (wpAny_newObj_type (wpAny_bind (wpAny_pure (wpAny_pure ⟨_, rfl, wpAny_pure h⟩))) htake)
    | exact wpAny_bind (wpAny_bind (m := Builtin.Tuple.tupleExact _) (wpAny_newObj_type (wpAny_pure (wpAny_pure ⟨_, rfl, wpAny_pure h⟩)) htake))
    | exact wpAny_bind (wpAny_bind (m := Builtin.Tuple.tupleExact _) (wpAny_newObj_type (wpAny_pure ⟨_, rfl, wpAny_pure h⟩) htake))
end
section
open PySem.Spec PyProof.Rows
variable {X : Cx}
def rStT (K : PySem.W.Frag) : V → Option Int → Option Int → Option Int → Hp → VK → Prop := fun x lo hi so H Q => ∃ a xs st, x = .ref a ∧ SqT K H a xs ∧ so = some st ∧ st ≠ 0 ∧ st ≠ 1 ∧ (pickT xs lo hi st).length ≤ sizeLine ∧ ∀ p, H p = none → Q (.ref p) (upd H p (.tup (pickT xs lo hi st)))
theorem sl_stepT : SlS X (rStT X.K) := by
  intro pins s σ H x v vl vu vs lo hi so sl Q I rx hs pl pu ps h
  obtain ⟨a, xs, st, rfl, hx, rfl, h0, h1, hle, q⟩ := h
  cases rx
  obtain ⟨its, r, ht, hz⟩ := I.tuple hx
  have hlen : its.toArray.size = xs.length := by rw [List.size_toArray]; exact r.length.symm
  refine ⟨"tuple", _, PyProof.Rows.slot_tuple_getitem.lookup, ht.typeIs, ?_⟩
  have v0 := vals_pick r ((List.range (Builtin.Slice.slicePlaces (Builtin.Slice.sliceAdjust lo hi st (xs.length : Int)).1 (Builtin.Slice.sliceAdjust lo hi st (xs.length : Int)).2 st)).map fun (m : Nat) => ((Builtin.Slice.sliceAdjust lo hi st (xs.length : Int)).1 + (m : Int) * st).toNat)
  rw [List.filterMap_map, List.filterMap_map] at v0
  have v1 : Vals (pickT xs lo hi st) _ := v0
  refine getItem_tuple_st ht hs pl pu ps h0 h1 (us := (List.range (Builtin.Slice.slicePlaces (Builtin.Slice.sliceAdjust lo hi st (xs.length : Int)).1 (Builtin.Slice.sliceAdjust lo hi st (xs.length : Int)).2 st)).filterMap ((fun x => its[x]?) ∘ fun (m : Nat) => ((Builtin.Slice.sliceAdjust lo hi st (xs.length : Int)).1 + (m : Int) * st).toNat)) ?_ (by rw [← v1.length]; exact hle) ?_
  · rw [hlen]
    congr 1
    funext m
    simp
  · refine ⟨.ref s.heap.objs.size, _, I.laid (t' := s.toks) (o := .tup (pickT xs lo hi st)) (fun b ob q => Heap.get?_push_of_some _ q) (Nat.le_refl _) ?_, rfl, q _ (I.hok.fresh (Nat.le_refl _))⟩
    exact ⟨hle, _, v1, IsTup.new _ _⟩
end
/-! the inner ones, from the last on -/
def midR (xs : List V) : List V := ((xs.drop 1).take (xs.length - 2)).reverse
theorem fm_congr {f g : Nat → Option V} : ∀ {l : List Nat}, (∀ k ∈ l, f k = g k) → l.filterMap f = l.filterMap g
  | [], _ => rfl
  | k :: r, h => by
    rw [List.filterMap_cons, List.filterMap_cons, h k List.mem_cons_self, fm_congr fun x hx => h x (List.mem_cons_of_mem _ hx)]
theorem mid_ix (xs : List V) (h : 2 ≤ xs.length) (f : Nat → Nat) (hf : ∀ k, k < xs.length - 2 → f k = xs.length - 2 - k) : ((List.range (xs.length - 2)).filterMap fun k => xs[f k]?) = midR xs := by
  have e : ∀ k ∈ List.range (xs.length - 2), xs[f k]? = (midR xs)[k]? := by
    intro k hk
    have hk' := List.mem_range.mp hk
    unfold midR
    rw [hf k hk', List.getElem?_reverse (by rw [List.length_take, List.length_drop]; omega), List.length_take, List.length_drop, List.getElem?_take, if_pos (by omega), List.getElem?_drop]
    congr 1
    omega
  have hl : (midR xs).length = xs.length - 2 := by
    unfold midR
    rw [List.length_reverse, List.length_take, List.length_drop]
    omega
  have e2 : ((List.range (xs.length - 2)).filterMap fun k => xs[f k]?) = (List.range (xs.length - 2)).filterMap fun k => (midR xs)[k]? := fm_congr e
  rw [e2, ← hl]
  generalize midR xs = ys
  have key : ∀ n, n ≤ ys.length → ((List.range n).filterMap fun k => ys[k]?) = ys.take n := by
    intro n
    induction n with
    | zero => intro _; rfl
    | succ n ih =>
      intro hn
      rw [List.range_succ, List.filterMap_append, ih (by omega), List.take_add_one, List.getElem?_eq_getElem (by omega : n < ys.length)]
      simp [List.getElem?_eq_getElem (by omega : n < ys.length)]
  rw [key _ (Nat.le_refl _), List.take_length]
theorem mid_pickT {xs : List V} (h : 2 ≤ xs.length) : pickT xs (some (-2)) (some 0) (-1) = midR xs := by
  have e : Builtin.Slice.sliceAdjust (some (-2)) (some 0) (-1) (xs.length : Int) = ((xs.length : Int) - 2, 0) := by
    simp [Builtin.Slice.sliceAdjust]
    omega
  have e2 : Builtin.Slice.slicePlaces ((xs.length : Int) - 2) 0 (-1) = xs.length - 2 := by
    unfold Builtin.Slice.slicePlaces
    rw [if_neg (by decide)]
    by_cases c : ((xs.length : Int) - 2) > 0
    · rw [if_pos c, show (- -1 : Int) = 1 from rfl, Int.ediv_one]
      omega
    · rw [if_neg c]
      omega
  unfold pickT
  rw [e]
  dsimp only
  rw [e2]
  exact mid_ix xs h _ fun k hk => by omega
theorem mid_pickL {xs : List V} (h : 2 ≤ xs.length) : pickL xs (some (-2)) (some 0) (some (-1)) = midR xs := by
  have e : PySem.sliceBounds (some (-2)) (some 0) (some (-1)) xs.length = ((xs.length : Int) - 2, 0, -1) := by
    simp [PySem.sliceBounds]
    omega
  unfold pickL
  rw [e]
  dsimp only
  unfold sliceRange
  rw [if_neg (by decide)]
  have e2 : (if ((xs.length : Int) - 2) > 0 then ((xs.length : Int) - 2 - 0 - -1 - 1) / (- -1) else 0).toNat = xs.length - 2 := by
    by_cases c : ((xs.length : Int) - 2) > 0
    · rw [if_pos c, show (- -1 : Int) = 1 from rfl, Int.ediv_one]
      omega
    · rw [if_neg c]
      omega
  dsimp only
  rw [e2, List.filterMap_map]
  exact mid_ix xs h _ fun k hk => by omega
/-! ### x in a tuple, x any data -/
section
open PySem.Spec PyProof.Rows
variable {X : Cx}
def rInTD (K : PySem.W.Frag) : R2 := fun x y H Q => ∃ d ds, Dp K H x d ∧ Dp K H y (.tuple ds) ∧ SeqAt.shaped d = true ∧ SeqAt.shaped (.tuple ds) = true ∧ Q (.bl (ds.any fun z => PyData.eqv z d)) H
theorem op_inTD (hu : X.A.units + 65 < cLine) : OpR X (compareOp .In) (rInTD X.K) := by
  intro pins s σ H x y v u Q I rx ry h
  obtain ⟨d, ds, hd, he, sd, se, q⟩ := h
  obtain ⟨as, r1⟩ := Dp.reads I d x v hd rx
  obtain ⟨bs, r2⟩ := Dp.reads I (.tuple ds) y u he ry
  exact SeqAt.in_tuple_reads r2 r1 (SeqAt.canLay_of_shaped se) (SeqAt.canLay_of_shaped sd) (room_in_shaped sd hu) ⟨.bl _, H, I, rfl, q⟩
/-! ### len(set(xs)), xs ints: some number -/
def tLenSetN (K : PySem.W.Frag) (ta : TE) : TE := fun σ H Q => ta σ H fun x H1 => ∃ (l : Addr) (ns : List Int), x = .ref l ∧ SqL K H1 l (ns.map V.int) ∧ ns.length ≤ 4000 ∧ ∀ k : Nat, Q (.int k) H1
theorem pe_lenSetN {X : Cx} {a : Expr} {ta : TE} {p p2 q pos : Pos} (hg : Gl X "len") (hm : X.mg "len" = none) (hg2 : Gl X "set") (hm2 : X.mg "set" = none) (ha : PE X a ta) (hc : X.calm = true := by rfl)
    (na : starEach [a] X.env = (false, eval a X.env) :: starEach [] X.env := by rfl) : PE X (.Call (.Name "len" p) [.Call (.Name "set" p2) [a] [] q] [] pos) (tLenSetN X.K ta) := by
  refine ⟨fun pins s σ H Q I h => ?_⟩
  refine Call_ (ld_blt I hg hm boot_len (callWith_builtin1 (args_cons (Call_ (ld_blt I hg2 hm2 boot_set (callWith_type1 (args_cons (thn (ha.run pins s σ H _ I h) fun v s1 ⟨x, H1, I1, r1, q1⟩ => args_nil ?_) na) na rfl))) rfl) rfl rfl))
  obtain ⟨l, ns, rfl, hq, hn, q1⟩ := q1
  cases r1
  obtain ⟨its, r, pl, hz⟩ := I1.list hq
  have hd := I1.ok.hd hc
  refine set_of_list hd pl.isList (by simpa using ints_of_vals r) (by unfold scanBound; omega) fun h' tk c hL => args_nil ?_
  obtain ⟨R1, hcn, kept⟩ := hL
  obtain ⟨o, es, ep, t, g1, g2, g3, good, nodE, mem, g4, g5, g6, g7, g8⟩ := R1
  have I2 : Inv X pins σ H1 { s1 with heap := h', toks := tk } := I1.kept fun b o e => kept b o e
  have hl : es.size ≤ ns.length := by
    have : (es.toList.map keyOf).length ≤ ns.length := List.Nodup.length_le_of_subset nodE fun k hk => by
      have := (mem k).mpr hk
      exact of_decide_eq_true this
    rw [List.length_map, Array.length_toList] at this
    exact this
  exact call_len_set (s := { s1 with heap := h', toks := tk }) g1 g2 g3 g5 (by omega) ⟨.int es.size, H1, I2.tok _, ⟨_, rfl⟩, q1 _⟩
end
/-! ### data, alike or not -/
open Classical in
noncomputable def deq (a b : PyData) : Bool := decide (a = b)
open Classical in
theorem deq_t {a b : PyData} (h : a = b) : deq a b = true := decide_eq_true h
open Classical in
theorem deq_f {a b : PyData} (h : a ≠ b) : deq a b = false := decide_eq_false h
open Classical in
theorem deq_iff {a b : PyData} : deq a b = true ↔ a = b := decide_eq_true_iff
theorem deq_b {a b : PyData} {c : Bool} (h : c = true ↔ a = b) : deq a b = c := by
  cases c with
  | true => exact deq_t (h.mp rfl)
  | false => exact deq_f fun e => by have := h.mpr e; cases this
def Fs (n : Nat) (d : PyData) : Prop := Fit n d ∧ SeqAt.shaped d = true
theorem lay_mem : ∀ {ds : List PyData} {e : PyData}, PyData.canLayAll0 ds = true → e ∈ ds → e.canLay0 = true
  | [], _, _, h => by cases h
  | d :: r, e, h, he => by
    rw [PyData.canLayAll0, Bool.and_eq_true] at h
    rcases List.mem_cons.mp he with z | z
    · rw [z]
      exact h.1
    · exact lay_mem h.2 z
theorem dep_mem : ∀ {ds : List PyData} {e : PyData}, e ∈ ds → e.depth ≤ PyData.depthAll ds
  | [], _, h => by cases h
  | d :: r, e, he => by
    rw [PyData.depthAll]
    rcases List.mem_cons.mp he with z | z
    · rw [z]
      exact Nat.le_max_left _ _
    · exact Nat.le_trans (dep_mem z) (Nat.le_max_right _ _)
theorem shp {d : PyData} (h : SeqAt.shaped d = true) : d.canLay0 = true ∧ d.depth ≤ 64 := by
  unfold SeqAt.shaped at h
  rw [Bool.and_eq_true] at h
  exact ⟨h.1, of_decide_eq_true h.2⟩
theorem shp' {d : PyData} (h : d.canLay0 = true) (h2 : d.depth ≤ 64) : SeqAt.shaped d = true := by
  unfold SeqAt.shaped
  rw [h, decide_eq_true h2]
  rfl
theorem Fs.lst {n : Nat} {ds : List PyData} {e : PyData} (h : Fs (n + 1) (.list ds)) (he : e ∈ ds) : Fs n e := by
  obtain ⟨h1, h2⟩ := h
  obtain ⟨a, b⟩ := shp h2
  rw [PyData.canLay0] at a
  rw [PyData.depth] at b
  have := dep_mem he
  exact ⟨h1.2 e he, shp' (lay_mem a he) (by omega)⟩
theorem Fs.tup {n : Nat} {ds : List PyData} {e : PyData} (h : Fs (n + 1) (.tuple ds)) (he : e ∈ ds) : Fs n e := by
  obtain ⟨h1, h2⟩ := h
  obtain ⟨a, b⟩ := shp h2
  rw [PyData.canLay0] at a
  rw [PyData.depth] at b
  have := dep_mem he
  exact ⟨h1.2 e he, shp' (lay_mem a he) (by omega)⟩
theorem zip_deq : ∀ {ds es : List PyData}, ds.length = es.length → ((List.zipWith deq ds es).all id = true ↔ ds = es)
  | [], [], _ => by simp
  | [], _ :: _, h => by simp at h
  | _ :: _, [], h => by simp at h
  | d :: ds, e :: es, h => by
    rw [List.zipWith_cons_cons, List.all_cons, Bool.and_eq_true, zip_deq (by simpa using h)]
    show (deq d e = true ∧ _) ↔ _
    rw [deq_iff, List.cons.injEq]
def spDsm (K : PySem.W.Frag) (n : Nat) : Sp := fun vs H Q _ => ∃ (x y : V) (d e : PyData), vs = [x, y] ∧ Dp K H x d ∧ Dp K H y e ∧ Fs n d ∧ Fs n e ∧ ∀ H', Same H H' → Q (.bl (deq d e)) H'
theorem qdf {Q : VK} {H : Hp} {d e : PyData} (h : Q (.bl (deq d e)) H) (n : d ≠ e) : Q (.bl false) H := by rw [deq_f n] at h; exact h
theorem qdt {Q : VK} {H : Hp} {d e : PyData} (h : Q (.bl (deq d e)) H) (n : d = e) : Q (.bl true) H := by rw [deq_t n] at h; exact h
theorem qdb {Q : VK} {H : Hp} {d e : PyData} {b : Bool} (h : Q (.bl (deq d e)) H) (n : b = true ↔ d = e) : Q (.bl b) H := by rw [deq_b n] at h; exact h
abbrev s__law_same : Stmt := top 22
abbrev N__law_same : List Str := ["_law_found", "_law_due_here", "_law_one", "_law_two"]
abbrev P__law_same : List Str := ["_law_found", "_law_due_here"]
theorem sc__law_same : FnScope N__law_same P__law_same (defScope s__law_same) := ⟨rfl, rfl, rfl, by decide +kernel, rfl, by decide +kernel, by decide +kernel⟩
section
variable {P : Program} {w : World} {K : PySem.W.Frag} {mg : Str → Option Value} {base : Heap}
theorem dsm_step {f : Addr} {fd : FuncData} {n : Nat} {spI : Sp} (D__law_same : Df K mg "_law_same" s__law_same P__law_same f fd) (T : Blt mg) (G__law_same : FnOk P w K mg base CX0 n f fd P__law_same spI) (hG : ∀ m, n = m + 1 → spI = spDsm K m) : FnOk P w K mg base CX0 (n + 1) f fd P__law_same (spDsm K n) := by
  have nd := sc__law_same.nd
  refine D__law_same.F.ok sc__law_same (fun vs H Q E h => ?_) (fun cdv A outer s H vs Q E hr h => ?_)
  · obtain ⟨x, y, d, e, rfl, _⟩ := h
    rfl
  · obtain ⟨x, y, d, e, rfl, hx, hy, fx, fy, q⟩ := h
    refine ⟨_, (pss_cons (ps_if (pt_val (pe_callB (r := rIsiT K) call_isiT (by rfl) T.b_isinstance (by decide +kernel) (pa_cons (pv 1) (pa_cons (pe_tup (pa_cons (pe_bltn (v := .ty "list") (by rfl) T.b_list (by decide +kernel) rfl) (pa_cons (pe_bltn (v := .ty "tuple") (by rfl) T.b_tuple (by decide +kernel) rfl) pa_nil))) pa_nil)))) (pss_cons (ps_if (PW.pt (pw_or (pt_cmpR op_ne (pe_callB (r := rIsi K) call_isi (by rfl) T.b_isinstance (by decide +kernel) (pa_cons (pv 0) (pa_cons (pe_bltn (v := .ty "list") (by rfl) T.b_list (by decide +kernel) rfl) pa_nil))) (pe_callB (r := rIsi K) call_isi (by rfl) T.b_isinstance (by decide +kernel) (pa_cons (pv 1) (pa_cons (pe_bltn (v := .ty "list") (by rfl) T.b_list (by decide +kernel) rfl) pa_nil))) (nomark _)) (pw_or1 (pt_cmpR op_ne (pe_callB (r := rIsi K) call_isi (by rfl) T.b_isinstance (by decide +kernel) (pa_cons (pv 0) (pa_cons (pe_bltn (v := .ty "tuple") (by rfl) T.b_tuple (by decide +kernel) rfl) pa_nil))) (pe_callB (r := rIsi K) call_isi (by rfl) T.b_isinstance (by decide +kernel) (pa_cons (pv 1) (pa_cons (pe_bltn (v := .ty "tuple") (by rfl) T.b_tuple (by decide +kernel) rfl) pa_nil))) (nomark _))))) (pss_one (ps_ret (pe_bl))) pss_nil)
      (pss_cons (ps_if (pt_cmpR op_ne (pe_callB (r := rLenQ K) call_len_seq (by rfl) T.b_len (by decide +kernel) (pa_cons (pv 0) pa_nil)) (pe_callB (r := rLenQ K) call_len_seq (by rfl) T.b_len (by decide +kernel) (pa_cons (pv 1) pa_nil)) (nomark _)) (pss_one (ps_ret (pe_bl))) pss_nil)
      (pss_one (ps_ret (pe_callB (r := rAll K) (cr_all rfl) (by rfl) T.b_all (by decide +kernel) (pa_cons (pe_lc (own := [("_law_one", 2), ("_law_two", 3)]) (g := gTup K 2 (gCons (gName 2) (gCons (gName 3) gNil))) (by rfl) nd (RZ.pi_zipA (by rfl) T.b_zip (pa_cons (pv 0) (pa_cons (pv 1) pa_nil))) (blkOk_by (own := [("_law_one", 2), ("_law_two", 3)]) (N := N__law_same) (sc := defScope s__law_same) (by decide +kernel)) (fun _ _ _ _ _ => (pg_tup (by rfl) (pgs_cons (pg_name (i := 2) nd rfl (Or.inl rfl)) (pgs_cons (pg_name (i := 3) nd rfl (Or.inl rfl)) pgs_nil)))) (fun _ _ _ _ _ => pts_nil) (fun _ _ _ _ _ => (pe_call G__law_same (hr.mono (by omega)) (by rfl) D__law_same.g D__law_same.F.kp D__law_same.b .nil pass0 (pa_cons (pv 2) (pa_cons (pv 3) pa_nil))))) pa_nil)))))) pss_nil)
      (pss_cons (ps_if (PW.pt (pw_or (pt_cmpR op_isN (pv 1) (pe_non) (nomark _)) (pw_or1 (pt_val (pe_callB (r := rIsi K) call_isi (by rfl) T.b_isinstance (by decide +kernel) (pa_cons (pv 1) (pa_cons (pe_bltn (v := .ty "str") (by rfl) T.b_str (by decide +kernel) rfl) pa_nil))))))) (pss_one (ps_ret (pe_and (pe_cmpR (r := rEqD K) (op_eqD hr.units) (pv 0) (pv 1) (nomark _)) (pe_one (pe_cmpR op_eq (pe_callB (r := rIsi K) call_isi (by rfl) T.b_isinstance (by decide +kernel) (pa_cons (pv 0) (pa_cons (pe_bltn (v := .ty "str") (by rfl) T.b_str (by decide +kernel) rfl) pa_nil))) (pe_callB (r := rIsi K) call_isi (by rfl) T.b_isinstance (by decide +kernel) (pa_cons (pv 1) (pa_cons (pe_bltn (v := .ty "str") (by rfl) T.b_str (by decide +kernel) rfl) pa_nil))) (nomark _)))))) pss_nil)
      (pss_one (ps_ret (pe_and (pe_callB (r := rIsi K) call_isi (by rfl) T.b_isinstance (by decide +kernel) (pa_cons (pv 0) (pa_cons (pe_bltn (v := .ty "int") (by rfl) T.b_int (by decide +kernel) rfl) pa_nil))) (pe_and (pe_cmpR op_eq (pe_callB (r := rIsi K) call_isi (by rfl) T.b_isinstance (by decide +kernel) (pa_cons (pv 0) (pa_cons (pe_bltn (v := .ty "bool") (by rfl) T.b_bool (by decide +kernel) rfl) pa_nil))) (pe_callB (r := rIsi K) call_isi (by rfl) T.b_isinstance (by decide +kernel) (pa_cons (pv 1) (pa_cons (pe_bltn (v := .ty "bool") (by rfl) T.b_bool (by decide +kernel) rfl) pa_nil))) (nomark _)) (pe_one (pe_cmpR (r := rEqD K) (op_eqD hr.units) (pv 0) (pv 1) (nomark _))))))))), ?_⟩
    walk_at "ev"
    intro p hp
    generalize hH : upd _ p _ = H1
    obtain ⟨sm, hp1⟩ := newO hH hp
    have q1 := q H1 sm
    have hx1 := dp_same sm hx
    have hy1 := dp_same sm hy
    have kx := kdD hx1
    have ky := kdD hy1
    have tx := kx.ty
    have ty := ky.ty
    obtain ⟨a1, a2, a3, a4, a5⟩ := kx.kit
    obtain ⟨b1, b2, b3, b4, b5⟩ := ky.kit
    have kb := kit_lt b4 b5
    have sx := fx.2
    have sy := fy.2
    have hx0 := hx1
    have hy0 := hy1
    clear hx hy hH
    cases hy1 with
    | non =>
      cases hx1 with
      | non =>
        walk_at "ev"
        exact qdb q1 ⟨fun _ => rfl, fun _ => rfl⟩
      | _ =>
        walk_at "ev"
        refine iteFe rfl ?_
        exact qdf q1 (fun z => by cases z)
    | str z =>
      cases hx1 with
      | str z' =>
        walk_at "ev"
        by_cases c : z' = z
        · subst c
          refine iteTe (by rw [PyData.eqv]; exact beq_self_eq_true _) ?_
          walk_at "ev"
          exact qdt q1 rfl
        · refine iteFe (by rw [PyData.eqv]; exact beq_eq_false_iff_ne.mpr c) ?_
          exact qdf q1 (fun z => by cases z; exact c rfl)
      | _ =>
        walk_at "ev"
        refine iteFe rfl ?_
        exact qdf q1 (fun z => by cases z)
    | int j =>
      cases hx1 with
      | int i =>
        walk_at "ev"
        refine qdb q1 ?_
        rw [PyData.eqv, beq_iff_eq]
        exact ⟨fun z => by rw [z], fun z => by cases z; rfl⟩
      | _ =>
        walk_at "ev"
        exact qdf q1 (fun z => by cases z)
    | bl j =>
      cases hx1 with
      | bl i =>
        walk_at "ev"
        refine qdb q1 ?_
        rw [PyData.eqv, beq_iff_eq]
        exact ⟨fun z => by rw [z], fun z => by cases z; rfl⟩
      | _ =>
        walk_at "ev"
        exact qdf q1 (fun z => by cases z)
    | lst ht hb =>
      rename_i b ys es
      cases hx1 with
      | lst hs ha =>
        rename_i a xs ds
        have el1 := dpall_len ha
        have el2 := dpall_len hb
        cases n with
        | zero => exact fx.1.elim
        | succ n =>
        have hS := hG n rfl
        subst hS
        have hf' : ds.length ≤ 4000 ∧ ∀ e ∈ ds, Fit n e := fx.1
        walk_at "ev"
        by_cases el : xs.length = ys.length
        · refine iteFe (by rw [decide_eq_true (by rw [el])]; rfl) ?_
          walk_at "ev"
          refine .inl ⟨hs, ht, fun D hD => ?_⟩
          refine lc_pairs (xs := xs) (ys := ys) (fun i H' => Hold (Same H1 H' ∧ H' D = some (.lst (((List.zipWith deq ds es).take i).map V.bl)))) (.mk ⟨same_new hD, upd_same⟩) ?_ ?_ ?_ ?_ ?_
          · intro i H' hP hi
            obtain ⟨sm2, hD2⟩ := hP.un
            have hi2 : i < ys.length := by omega
            exact ⟨xs, ys, _, _, sm2.seq hs, sm2.seq ht, List.getElem?_eq_getElem hi, List.getElem?_eq_getElem hi2⟩
          · intro i H' v H'' hP hi yl
            obtain ⟨sm2, hD2⟩ := hP.un
            obtain ⟨T, x, y, e1, e2, e3, f1, f2⟩ := yl
            exact ⟨T, x, y, e1, e2, e3, f1 _ (sm2.seq hs), f2 _ (sm2.seq ht)⟩
          · intro H' hP
            obtain ⟨sm2, hD2⟩ := hP.un
            exact ⟨xs, ys, sm2.seq hs, sm2.seq ht, .inl (Nat.le_refl _)⟩
          · intro i x y T' H' H'' hx hy hP hT e
            obtain ⟨sm2, hD2⟩ := hP.un
            obtain ⟨sm3, hT3⟩ := newO e.symm hT
            have hT4 : SqT K H'' T' [x, y] := SqT.of hT3
            obtain ⟨d, hd, hdx⟩ := dpall_get ha hx
            obtain ⟨d', hd', hdy⟩ := dpall_get hb hy
            have sm4 : Same H1 H'' := sm2.trans sm3
            have dx := dp_same sm4 hdx
            have dy := dp_same sm4 hdy
            have ft := fx.lst (List.mem_of_getElem? hd)
            have ft' := fy.lst (List.mem_of_getElem? hd')
            have hil : i < xs.length := (List.getElem?_eq_some_iff.mp hx).1
            have hlen : i ≤ 4000 := by omega
            walk_at "ev"
            intro H5 sm5
            have hD5 := sm5 _ _ (sm3 _ _ hD2)
            refine ⟨_, hD5, szm (by rw [List.length_map, List.length_take]; omega), .mk ⟨same_mut ((sm2.trans sm3).trans sm5) hD, ?_⟩⟩
            rw [upd_same, List.take_add_one, List.getElem?_zipWith, hd, hd', List.map_append]
            rfl
          · intro H' hP
            obtain ⟨sm2, hD2⟩ := hP.un
            refine ⟨D, _, rfl, SqL.of hD2, ?_⟩
            rw [List.take_of_length_le (by rw [List.length_zipWith]; omega)]
            exact qdb (q _ (sm.trans sm2)) ((zip_deq (by omega)).trans ⟨fun z => by rw [z], fun z => by cases z; rfl⟩)
        · refine iteTe (by rw [decide_eq_false fun z => el (by have := V.int.inj z; omega)]; rfl) ?_
          walk_at "ev"
          exact qdf q1 (fun z => by cases z; exact el (by omega))
      | _ =>
        walk_at "ev"
        exact qdf q1 (fun z => by cases z)
    | tup ht hb =>
      rename_i b ys es
      cases hx1 with
      | tup hs ha =>
        rename_i a xs ds
        have el1 := dpall_len ha
        have el2 := dpall_len hb
        cases n with
        | zero => exact fx.1.elim
        | succ n =>
        have hS := hG n rfl
        subst hS
        have hf' : ds.length ≤ 4000 ∧ ∀ e ∈ ds, Fit n e := fx.1
        walk_at "ev"
        by_cases el : xs.length = ys.length
        · refine iteFe (by rw [decide_eq_true (by rw [el])]; rfl) ?_
          walk_at "ev"
          refine .inr ⟨hs, ht, fun D hD => ?_⟩
          refine lc_pairs (xs := xs) (ys := ys) (fun i H' => Hold (Same H1 H' ∧ H' D = some (.lst (((List.zipWith deq ds es).take i).map V.bl)))) (.mk ⟨same_new hD, upd_same⟩) ?_ ?_ ?_ ?_ ?_
          · intro i H' hP hi
            obtain ⟨sm2, hD2⟩ := hP.un
            have hi2 : i < ys.length := by omega
            exact ⟨xs, ys, _, _, same_t sm2 hs, same_t sm2 ht, List.getElem?_eq_getElem hi, List.getElem?_eq_getElem hi2⟩
          · intro i H' v H'' hP hi yl
            obtain ⟨sm2, hD2⟩ := hP.un
            obtain ⟨T, x, y, e1, e2, e3, f1, f2⟩ := yl
            exact ⟨T, x, y, e1, e2, e3, f1 _ (same_t sm2 hs), f2 _ (same_t sm2 ht)⟩
          · intro H' hP
            obtain ⟨sm2, hD2⟩ := hP.un
            exact ⟨xs, ys, same_t sm2 hs, same_t sm2 ht, .inl (Nat.le_refl _)⟩
          · intro i x y T' H' H'' hx hy hP hT e
            obtain ⟨sm2, hD2⟩ := hP.un
            obtain ⟨sm3, hT3⟩ := newO e.symm hT
            have hT4 : SqT K H'' T' [x, y] := SqT.of hT3
            obtain ⟨d, hd, hdx⟩ := dpall_get ha hx
            obtain ⟨d', hd', hdy⟩ := dpall_get hb hy
            have sm4 : Same H1 H'' := sm2.trans sm3
            have dx := dp_same sm4 hdx
            have dy := dp_same sm4 hdy
            have ft := fx.tup (List.mem_of_getElem? hd)
            have ft' := fy.tup (List.mem_of_getElem? hd')
            have hil : i < xs.length := (List.getElem?_eq_some_iff.mp hx).1
            have hlen : i ≤ 4000 := by omega
            walk_at "ev"
            intro H5 sm5
            have hD5 := sm5 _ _ (sm3 _ _ hD2)
            refine ⟨_, hD5, szm (by rw [List.length_map, List.length_take]; omega), .mk ⟨same_mut ((sm2.trans sm3).trans sm5) hD, ?_⟩⟩
            rw [upd_same, List.take_add_one, List.getElem?_zipWith, hd, hd', List.map_append]
            rfl
          · intro H' hP
            obtain ⟨sm2, hD2⟩ := hP.un
            refine ⟨D, _, rfl, SqL.of hD2, ?_⟩
            rw [List.take_of_length_le (by rw [List.length_zipWith]; omega)]
            exact qdb (q _ (sm.trans sm2)) ((zip_deq (by omega)).trans ⟨fun z => by rw [z], fun z => by cases z; rfl⟩)
        · refine iteTe (by rw [decide_eq_false fun z => el (by have := V.int.inj z; omega)]; rfl) ?_
          walk_at "ev"
          exact qdf q1 (fun z => by cases z; exact el (by omega))
      | _ =>
        walk_at "ev"
        exact qdf q1 (fun z => by cases z)
theorem ok_dsm {f : Addr} {fd : FuncData} (D__law_same : Df K mg "_law_same" s__law_same P__law_same f fd) (T : Blt mg) : ∀ n : Nat, FnOk P w K mg base CX0 (n + 1) f fd P__law_same (spDsm K n)
  | 0 => dsm_step (spI := fun _ _ _ _ => False) D__law_same T ⟨fun _ _ _ _ h => h.elim, fun _ _ _ _ _ _ _ _ _ _ _ _ _ h => h.elim⟩ (fun m h => by omega)
  | n + 1 => dsm_step D__law_same T (ok_dsm D__law_same T n) (fun m h => by cases h; rfl)
end
abbrev s_are_alike : Stmt := top 12
abbrev N_are_alike : List Str := ["one", "other", "part", "beside"]
abbrev P_are_alike : List Str := ["one", "other"]
theorem sc_are_alike : FnScope N_are_alike P_are_alike (defScope s_are_alike) := ⟨rfl, rfl, rfl, by decide +kernel, rfl, by decide +kernel, by decide +kernel⟩
section
variable {P : Program} {w : World} {K : PySem.W.Frag} {mg : Str → Option Value} {base : Heap}
theorem alk_step {f : Addr} {fd : FuncData} {n : Nat} {spI : Sp} (D_are_alike : Df K mg "are_alike" s_are_alike P_are_alike f fd) (T : Blt mg) (G_are_alike : FnOk P w K mg base CX0 n f fd P_are_alike spI) (hG : ∀ m, n = m + 1 → spI = spDsm K m) : FnOk P w K mg base CX0 (n + 1) f fd P_are_alike (spDsm K n) := by
  have nd := sc_are_alike.nd
  refine D_are_alike.F.ok sc_are_alike (fun vs H Q E h => ?_) (fun cdv A outer s H vs Q E hr h => ?_)
  · obtain ⟨x, y, d, e, rfl, _⟩ := h
    rfl
  · obtain ⟨x, y, d, e, rfl, hx, hy, fx, fy, q⟩ := h
    refine ⟨_, (pss_cons (ps_if (pt_not (pt_val (pe_callB (r := rIsiT K) call_isiT (by rfl) T.b_isinstance (by decide +kernel) (pa_cons (pv 0) (pa_cons (pe_tup (pa_cons (pe_bltn (v := .ty "list") (by rfl) T.b_list (by decide +kernel) rfl) (pa_cons (pe_bltn (v := .ty "tuple") (by rfl) T.b_tuple (by decide +kernel) rfl) pa_nil))) pa_nil))))) (pss_one (ps_ret (pe_and (pe_cmpR op_eq (pe_callB (r := rIsi K) call_isi (by rfl) T.b_isinstance (by decide +kernel) (pa_cons (pv 0) (pa_cons (pe_bltn (v := .ty "bool") (by rfl) T.b_bool (by decide +kernel) rfl) pa_nil))) (pe_callB (r := rIsi K) call_isi (by rfl) T.b_isinstance (by decide +kernel) (pa_cons (pv 1) (pa_cons (pe_bltn (v := .ty "bool") (by rfl) T.b_bool (by decide +kernel) rfl) pa_nil))) (nomark _)) (pe_one (pe_cmpR (r := rEqD K) (op_eqD hr.units) (pv 0) (pv 1) (nomark _)))))) pss_nil)
      (pss_cons (ps_if (PW.pt (pw_or (pt_not (pt_val (pe_callB (r := rIsiT K) call_isiT (by rfl) T.b_isinstance (by decide +kernel) (pa_cons (pv 1) (pa_cons (pe_tup (pa_cons (pe_bltn (v := .ty "list") (by rfl) T.b_list (by decide +kernel) rfl) (pa_cons (pe_bltn (v := .ty "tuple") (by rfl) T.b_tuple (by decide +kernel) rfl) pa_nil))) pa_nil))))) (pw_or1 (pt_cmpR op_ne (pe_callB (r := rIsi K) call_isi (by rfl) T.b_isinstance (by decide +kernel) (pa_cons (pv 0) (pa_cons (pe_bltn (v := .ty "list") (by rfl) T.b_list (by decide +kernel) rfl) pa_nil))) (pe_callB (r := rIsi K) call_isi (by rfl) T.b_isinstance (by decide +kernel) (pa_cons (pv 1) (pa_cons (pe_bltn (v := .ty "list") (by rfl) T.b_list (by decide +kernel) rfl) pa_nil))) (nomark _))))) (pss_one (ps_ret (pe_bl))) pss_nil)
      (pss_one (ps_ret (pe_and (pe_cmpR op_eq (pe_callB (r := rLenQ K) call_len_seq (by rfl) T.b_len (by decide +kernel) (pa_cons (pv 0) pa_nil)) (pe_callB (r := rLenQ K) call_len_seq (by rfl) T.b_len (by decide +kernel) (pa_cons (pv 1) pa_nil)) (nomark _)) (pe_one (pe_callB (r := rAll K) (cr_all rfl) (by rfl) T.b_all (by decide +kernel) (pa_cons (pe_lc (own := [("part", 2), ("beside", 3)]) (g := gTup K 2 (gCons (gName 2) (gCons (gName 3) gNil))) (by rfl) nd (RZ.pi_zipA (by rfl) T.b_zip (pa_cons (pv 0) (pa_cons (pv 1) pa_nil))) (blkOk_by (own := [("part", 2), ("beside", 3)]) (N := N_are_alike) (sc := defScope s_are_alike) (by decide +kernel)) (fun _ _ _ _ _ => (pg_tup (by rfl) (pgs_cons (pg_name (i := 2) nd rfl (Or.inl rfl)) (pgs_cons (pg_name (i := 3) nd rfl (Or.inl rfl)) pgs_nil)))) (fun _ _ _ _ _ => pts_nil) (fun _ _ _ _ _ => (pe_call G_are_alike (hr.mono (by omega)) (by rfl) D_are_alike.g D_are_alike.F.kp D_are_alike.b .nil pass0 (pa_cons (pv 2) (pa_cons (pv 3) pa_nil))))) pa_nil)))))))), ?_⟩
    walk_at "ev"
    intro p hp
    generalize hH : upd _ p _ = H1
    obtain ⟨sm, hp1⟩ := newO hH hp
    have q1 := q H1 sm
    have hx1 := dp_same sm hx
    have hy1 := dp_same sm hy
    have kx := kdD hx1
    have ky := kdD hy1
    have tx := kx.ty
    have ty := ky.ty
    obtain ⟨a1, a2, a3, a4, a5⟩ := kx.kit
    obtain ⟨b1, b2, b3, b4, b5⟩ := ky.kit
    have kb := kit_lt b4 b5
    have ka := kit_lt a4 a5
    have sx := fx.2
    have sy := fy.2
    have hx0 := hx1
    have hy0 := hy1
    clear hx hy hH
    cases hx1 with
    | non =>
      cases hy1 with
      | bl z' =>
        walk_at "ev"
        exact qdf q1 (fun z => by cases z)
      | non =>
        walk_at "ev"
        exact qdb q1 ⟨fun _ => rfl, fun _ => by rw [PyData.eqv]⟩
      | _ =>
        walk_at "ev"
        refine qdb q1 ?_
        rw [PyData.eqv]
        refine ⟨fun z => ?_, fun z => ?_⟩ <;> cases z
    | str z =>
      cases hy1 with
      | bl z' =>
        walk_at "ev"
        exact qdf q1 (fun z => by cases z)
      | str z' =>
        walk_at "ev"
        refine qdb q1 ?_
        rw [PyData.eqv, beq_iff_eq]
        exact ⟨fun z => by rw [z], fun z => by cases z; rfl⟩
      | _ =>
        walk_at "ev"
        refine qdb q1 ?_
        rw [PyData.eqv]
        refine ⟨fun z => ?_, fun z => ?_⟩ <;> cases z
    | int j =>
      cases hy1 with
      | bl z' =>
        walk_at "ev"
        exact qdf q1 (fun z => by cases z)
      | int i =>
        walk_at "ev"
        refine qdb q1 ?_
        rw [PyData.eqv, beq_iff_eq]
        exact ⟨fun z => by rw [z], fun z => by cases z; rfl⟩
      | _ =>
        walk_at "ev"
        refine qdb q1 ?_
        rw [PyData.eqv]
        refine ⟨fun z => ?_, fun z => ?_⟩ <;> cases z
    | bl j =>
      cases hy1 with
      | bl i =>
        walk_at "ev"
        refine qdb q1 ?_
        rw [PyData.eqv, beq_iff_eq]
        exact ⟨fun z => by rw [z], fun z => by cases z; rfl⟩
      | _ =>
        walk_at "ev"
        exact qdf q1 (fun z => by cases z)
    | lst hs ha =>
      rename_i a xs ds
      cases hy1 with
      | lst ht hb =>
        rename_i b ys es
        have el1 := dpall_len ha
        have el2 := dpall_len hb
        cases n with
        | zero => exact fx.1.elim
        | succ n =>
        have hS := hG n rfl
        subst hS
        have hf' : ds.length ≤ 4000 ∧ ∀ e ∈ ds, Fit n e := fx.1
        walk_at "ev"
        intro p2 hp2
        generalize hH2 : upd _ p2 _ = H2
        obtain ⟨sm9, hp9⟩ := newO hH2 hp2
        clear hH2
        have hs := sm9.seq hs
        have ht := sm9.seq ht
        have ha := dpall_same sm9 ha
        have hb := dpall_same sm9 hb
        have kx : Kd K H2 (.ref a) "list" := .lst hs
        have ky : Kd K H2 (.ref b) "list" := .lst ht
        have tx := kx.ty
        have ty := ky.ty
        walk_at "ev"
        by_cases el : xs.length = ys.length
        · refine iteTe (decide_eq_true (by rw [el])) ?_
          walk_at "ev"
          refine .inl ⟨hs, ht, fun D hD => ?_⟩
          refine lc_pairs (xs := xs) (ys := ys) (fun i H' => Hold (Same H2 H' ∧ H' D = some (.lst (((List.zipWith deq ds es).take i).map V.bl)))) (.mk ⟨same_new hD, upd_same⟩) ?_ ?_ ?_ ?_ ?_
          · intro i H' hP hi
            obtain ⟨sm2, hD2⟩ := hP.un
            have hi2 : i < ys.length := by omega
            exact ⟨xs, ys, _, _, sm2.seq hs, sm2.seq ht, List.getElem?_eq_getElem hi, List.getElem?_eq_getElem hi2⟩
          · intro i H' v H'' hP hi yl
            obtain ⟨sm2, hD2⟩ := hP.un
            obtain ⟨T, x, y, e1, e2, e3, f1, f2⟩ := yl
            exact ⟨T, x, y, e1, e2, e3, f1 _ (sm2.seq hs), f2 _ (sm2.seq ht)⟩
          · intro H' hP
            obtain ⟨sm2, hD2⟩ := hP.un
            exact ⟨xs, ys, sm2.seq hs, sm2.seq ht, .inl (Nat.le_refl _)⟩
          · intro i x y T' H' H'' hx hy hP hT e
            obtain ⟨sm2, hD2⟩ := hP.un
            obtain ⟨sm3, hT3⟩ := newO e.symm hT
            have hT4 : SqT K H'' T' [x, y] := SqT.of hT3
            obtain ⟨d, hd, hdx⟩ := dpall_get ha hx
            obtain ⟨d', hd', hdy⟩ := dpall_get hb hy
            have sm4 : Same H2 H'' := sm2.trans sm3
            have dx := dp_same sm4 hdx
            have dy := dp_same sm4 hdy
            have ft := fx.lst (List.mem_of_getElem? hd)
            have ft' := fy.lst (List.mem_of_getElem? hd')
            have hil : i < xs.length := (List.getElem?_eq_some_iff.mp hx).1
            have hlen : i ≤ 4000 := by omega
            walk_at "ev"
            intro H5 sm5
            have hD5 := sm5 _ _ (sm3 _ _ hD2)
            refine ⟨_, hD5, szm (by rw [List.length_map, List.length_take]; omega), .mk ⟨same_mut ((sm2.trans sm3).trans sm5) hD, ?_⟩⟩
            rw [upd_same, List.take_add_one, List.getElem?_zipWith, hd, hd', List.map_append]
            rfl
          · intro H' hP
            obtain ⟨sm2, hD2⟩ := hP.un
            refine ⟨D, _, rfl, SqL.of hD2, ?_⟩
            rw [List.take_of_length_le (by rw [List.length_zipWith]; omega)]
            exact qdb (q _ (sm.trans (sm9.trans sm2))) ((zip_deq (by omega)).trans ⟨fun z => by rw [z], fun z => by cases z; rfl⟩)
        · refine iteFe (decide_eq_false fun z => el (by have := V.int.inj z; omega)) ?_
          exact qdf (q _ (sm.trans sm9)) (fun z => by cases z; exact el (by omega))
      | _ =>
        walk_at "ev"
        intro p2 hp2
        generalize hH2 : upd _ p2 _ = H2
        obtain ⟨sm9, hp9⟩ := newO hH2 hp2
        clear hH2
        have kx := kdD (dp_same sm9 hx0)
        have ky := kdD (dp_same sm9 hy0)
        have tx := kx.ty
        have ty := ky.ty
        walk_at "ev"
        exact qdf (q _ (sm.trans sm9)) (fun z => by cases z)
    | tup hs ha =>
      rename_i a xs ds
      cases hy1 with
      | tup ht hb =>
        rename_i b ys es
        have el1 := dpall_len ha
        have el2 := dpall_len hb
        cases n with
        | zero => exact fx.1.elim
        | succ n =>
        have hS := hG n rfl
        subst hS
        have hf' : ds.length ≤ 4000 ∧ ∀ e ∈ ds, Fit n e := fx.1
        walk_at "ev"
        intro p2 hp2
        generalize hH2 : upd _ p2 _ = H2
        obtain ⟨sm9, hp9⟩ := newO hH2 hp2
        clear hH2
        have hs := same_t sm9 hs
        have ht := same_t sm9 ht
        have ha := dpall_same sm9 ha
        have hb := dpall_same sm9 hb
        have kx : Kd K H2 (.ref a) "tuple" := .tup hs
        have ky : Kd K H2 (.ref b) "tuple" := .tup ht
        have tx := kx.ty
        have ty := ky.ty
        walk_at "ev"
        by_cases el : xs.length = ys.length
        · refine iteTe (decide_eq_true (by rw [el])) ?_
          walk_at "ev"
          refine .inr ⟨hs, ht, fun D hD => ?_⟩
          refine lc_pairs (xs := xs) (ys := ys) (fun i H' => Hold (Same H2 H' ∧ H' D = some (.lst (((List.zipWith deq ds es).take i).map V.bl)))) (.mk ⟨same_new hD, upd_same⟩) ?_ ?_ ?_ ?_ ?_
          · intro i H' hP hi
            obtain ⟨sm2, hD2⟩ := hP.un
            have hi2 : i < ys.length := by omega
            exact ⟨xs, ys, _, _, same_t sm2 hs, same_t sm2 ht, List.getElem?_eq_getElem hi, List.getElem?_eq_getElem hi2⟩
          · intro i H' v H'' hP hi yl
            obtain ⟨sm2, hD2⟩ := hP.un
            obtain ⟨T, x, y, e1, e2, e3, f1, f2⟩ := yl
            exact ⟨T, x, y, e1, e2, e3, f1 _ (same_t sm2 hs), f2 _ (same_t sm2 ht)⟩
          · intro H' hP
            obtain ⟨sm2, hD2⟩ := hP.un
            exact ⟨xs, ys, same_t sm2 hs, same_t sm2 ht, .inl (Nat.le_refl _)⟩
          · intro i x y T' H' H'' hx hy hP hT e
            obtain ⟨sm2, hD2⟩ := hP.un
            obtain ⟨sm3, hT3⟩ := newO e.symm hT
            have hT4 : SqT K H'' T' [x, y] := SqT.of hT3
            obtain ⟨d, hd, hdx⟩ := dpall_get ha hx
            obtain ⟨d', hd', hdy⟩ := dpall_get hb hy
            have sm4 : Same H2 H'' := sm2.trans sm3
            have dx := dp_same sm4 hdx
            have dy := dp_same sm4 hdy
            have ft := fx.tup (List.mem_of_getElem? hd)
            have ft' := fy.tup (List.mem_of_getElem? hd')
            have hil : i < xs.length := (List.getElem?_eq_some_iff.mp hx).1
            have hlen : i ≤ 4000 := by omega
            walk_at "ev"
            intro H5 sm5
            have hD5 := sm5 _ _ (sm3 _ _ hD2)
            refine ⟨_, hD5, szm (by rw [List.length_map, List.length_take]; omega), .mk ⟨same_mut ((sm2.trans sm3).trans sm5) hD, ?_⟩⟩
            rw [upd_same, List.take_add_one, List.getElem?_zipWith, hd, hd', List.map_append]
            rfl
          · intro H' hP
            obtain ⟨sm2, hD2⟩ := hP.un
            refine ⟨D, _, rfl, SqL.of hD2, ?_⟩
            rw [List.take_of_length_le (by rw [List.length_zipWith]; omega)]
            exact qdb (q _ (sm.trans (sm9.trans sm2))) ((zip_deq (by omega)).trans ⟨fun z => by rw [z], fun z => by cases z; rfl⟩)
        · refine iteFe (decide_eq_false fun z => el (by have := V.int.inj z; omega)) ?_
          exact qdf (q _ (sm.trans sm9)) (fun z => by cases z; exact el (by omega))
      | _ =>
        walk_at "ev"
        intro p2 hp2
        generalize hH2 : upd _ p2 _ = H2
        obtain ⟨sm9, hp9⟩ := newO hH2 hp2
        clear hH2
        have kx := kdD (dp_same sm9 hx0)
        have ky := kdD (dp_same sm9 hy0)
        have tx := kx.ty
        have ty := ky.ty
        walk_at "ev"
        exact qdf (q _ (sm.trans sm9)) (fun z => by cases z)
theorem ok_alk {f : Addr} {fd : FuncData} (D_are_alike : Df K mg "are_alike" s_are_alike P_are_alike f fd) (T : Blt mg) : ∀ n : Nat, FnOk P w K mg base CX0 (n + 1) f fd P_are_alike (spDsm K n)
  | 0 => alk_step (spI := fun _ _ _ _ => False) D_are_alike T ⟨fun _ _ _ _ h => h.elim, fun _ _ _ _ _ _ _ _ _ _ _ _ _ h => h.elim⟩ (fun m h => by omega)
  | n + 1 => alk_step D_are_alike T (ok_alk D_are_alike T n) (fun m h => by cases h; rfl)
end
/-! ### even rows -/
structure XI (K : PySem.W.Frag) (fI : Addr) (fdI : FuncData) : Prop where
  F : Fun K "__init__" "TurnError.__init__" s_init fI fdI
  b : Binds K fdI N_init []
  ty : PySem.W.typeIn K (.ref fI) = some (.type "function")
def Wh (H H' : Hp) (d : Addr) (v : V) : Prop := H d = none ∧ Same H H' ∧ H' d = some (.xd [(("what" : Str), v)])
def IsBad (ds : List PyData) (r : Nat) : Prop := (r = 0 ∧ ∀ p, 1 ≤ p → 2 * p < ds.length → ds[p]? = ds[ds.length - p]?) ∨ (1 ≤ r ∧ 2 * r < ds.length ∧ ds[r]? ≠ ds[ds.length - r]? ∧ ∀ p, 1 ≤ p → p < r → ds[p]? = ds[ds.length - p]?)
theorem IsBad.uniq {ds : List PyData} {r r' : Nat} (h : IsBad ds r) (h' : IsBad ds r') : r = r' := by
  rcases h with ⟨a, b⟩ | ⟨a, b, c, d⟩
  · rcases h' with ⟨a', b'⟩ | ⟨a', b', c', d'⟩
    · rw [a, a']
    · exact absurd (b r' a' b') c'
  · rcases h' with ⟨a', b'⟩ | ⟨a', b', c', d'⟩
    · exact absurd (b' r a b) c
    · rcases Nat.lt_trichotomy r r' with z | z | z
      · exact absurd (d' r a z) c
      · exact z
      · exact absurd (d r' a' z) c'
def EvD (d : PyData) : Prop := ∃ ds, d = .list ds ∧ 2 ≤ ds.length ∧ ds.length % 2 = 0 ∧ IsBad ds 0
theorem at_neg {xs : List V} {p : Nat} {v : V} (h1 : 1 ≤ p) (h2 : p ≤ xs.length) (h : xs[xs.length - p]? = some v) : atI xs (-(p : Int)) = some v := by
  have e : ixN xs.length (-(p : Int)) = some (xs.length - p) := by
    unfold ixN
    rw [if_neg (by omega), if_pos (by omega)]
    congr 1
    omega
  unfold atI
  rw [e]
  exact h
theorem dpall_ix {K : PySem.W.Frag} {H : Hp} {xs : List V} {ds : List PyData} (h : DpAll K H xs ds) {i : Nat} (hi : i < ds.length) : ∃ v d, xs[i]? = some v ∧ ds[i]? = some d ∧ Dp K H v d := by
  have hl := dpall_len h
  obtain ⟨d, h1, h2⟩ := dpall_get h (List.getElem?_eq_getElem (show i < xs.length by omega))
  exact ⟨_, d, List.getElem?_eq_getElem (by omega), h1, h2⟩
abbrev s_first_unlike : Stmt := top 13
abbrev N_first_unlike : List Str := ["row", "place"]
abbrev P_first_unlike : List Str := ["row"]
theorem sc_first_unlike : FnScope N_first_unlike P_first_unlike (defScope s_first_unlike) := ⟨rfl, rfl, rfl, by decide +kernel, rfl, by decide +kernel, by decide +kernel⟩
def spFU (K : PySem.W.Frag) (n : Nat) : Sp := fun vs H Q _ => ∃ (a : Addr) (xs : List V) (ds : List PyData), vs = [.ref a] ∧ (SqL K H a xs ∨ SqT K H a xs) ∧ DpAll K H xs ds ∧ ds.length ≤ 4000 ∧ ds.length % 2 = 0 ∧ (∀ e ∈ ds, Fs n e) ∧ ∀ (r : Nat) H', IsBad ds r → Same H H' → Q (.int r) H'
section
variable {P : Program} {w : World} {K : PySem.W.Frag} {mg : Str → Option Value} {base : Heap}
theorem ok_fu {f f1 : Addr} {fd d1 : FuncData} {n : Nat} (F : Fun K "first_unlike" "first_unlike" s_first_unlike f fd) (T : Blt mg) (D_are_alike : Df K mg "are_alike" s_are_alike P_are_alike f1 d1) : FnOk P w K mg base CX0 (n + 2) f fd P_first_unlike (spFU K n) := by
  have G_are_alike : FnOk P w K mg base CX0 (n + 1) f1 d1 P_are_alike (spDsm K n) := ok_alk D_are_alike T n
  have nd := sc_first_unlike.nd
  refine F.ok sc_first_unlike (fun vs H Q E h => ?_) (fun cdv A outer s H vs Q E hr h => ?_)
  · obtain ⟨a, xs, ds, rfl, _⟩ := h
    rfl
  · obtain ⟨a, xs, ds, rfl, hS, hD, hl, hev, hfs, q⟩ := h
    refine ⟨_, (pss_cons (ps_for PassesOwn.never rfl (pi_range2 (by rfl) T.b_range (pa_cons (pe_int) (pa_cons (pe_op op_fdiv (pe_callB (r := rLenQ K) call_len_seq (by rfl) T.b_len (by decide +kernel) (pa_cons (pv 0) pa_nil)) (pe_int)) pa_nil))) (pg_name (i := 1) nd rfl (Or.inl rfl))
      (pss_one (ps_if (pt_not (pt_val (pe_call G_are_alike (hr.mono (by omega)) (by rfl) D_are_alike.g D_are_alike.F.kp D_are_alike.b .nil pass0 (pa_cons (pe_ix (r := rIxQ K) ix_seq (pv 0) (pv 1) (fun _ _ => rfl)) (pa_cons (pe_ix (r := rIxQ K) ix_seq (pv 0) (pe_un un_neg (pv 1)) (fun _ _ => rfl)) pa_nil))))) (pss_one (ps_ret (pv 1))) pss_nil)))
      (pss_one (ps_ret (pe_int)))), ?_⟩
    have el := dpall_len hD
    walk_at "ev"
    refine for_range (lo := 1) (n := _) (fun i σ H' => Hold (∃ y1, σ = [some (.ref a), y1] ∧ Same H H' ∧ ∀ p, 1 ≤ p → p < 1 + i → ds[p]? = ds[ds.length - p]?)) (.mk ⟨_, rfl, Same.refl _, fun p h1 h2 => by omega⟩) ?_ ?_
    · intro i σ H1 hi hP
      obtain ⟨y1, rfl, sm1, hp⟩ := hP.un
      have hi2 : 2 * (1 + i) < ds.length := by omega
      obtain ⟨v1, d1, e1, g1, dp1⟩ := dpall_ix hD (show 1 + i < ds.length by omega)
      obtain ⟨v2, d2, e2, g2, dp2⟩ := dpall_ix hD (show ds.length - (1 + i) < ds.length by omega)
      have a1 : atI xs (1 + (i : Int)) = some v1 := at_of (j := 1 + i) (by omega) e1
      have a2 : atI xs (-(1 + (i : Int))) = some v2 := by
        have := at_neg (xs := xs) (p := 1 + i) (v := v2) (by omega) (by omega) (by rw [el]; exact e2)
        rw [show ((1 + i : Nat) : Int) = 1 + (i : Int) by omega] at this
        exact this
      have hS1 := sq_same sm1 hS
      have h1 := dp_same sm1 dp1
      have h2 := dp_same sm1 dp2
      have f1 := hfs _ (List.mem_of_getElem? g1)
      have f2 := hfs _ (List.mem_of_getElem? g2)
      walk_at "ev"
      intro H2 sm2
      cases hb : deq d1 d2 with
      | true =>
        have ed := deq_iff.mp hb
        walk_at "ev"
        refine .mk ⟨_, rfl, sm1.trans sm2, fun p h1 h2 => ?_⟩
        by_cases c : p = 1 + i
        · rw [c, g1, g2, ed]
        · exact hp p h1 (by omega)
      | false =>
        walk_at "ev"
        have := q (1 + i) H2 (.inr ⟨by omega, hi2, fun z => ?_, fun p h1 h2 => hp p h1 h2⟩) (sm1.trans sm2)
        · rw [show ((1 + i : Nat) : Int) = 1 + (i : Int) by omega] at this
          exact this
        · rw [g1, g2] at z
          rw [deq_t (Option.some.inj z)] at hb
          cases hb
    · intro σ H1 hP
      obtain ⟨y1, rfl, sm1, hp⟩ := hP.un
      walk_at "ev"
      exact q 0 H1 (.inl ⟨rfl, fun p h1 h2 => hp p h1 (by omega)⟩) sm1
end
abbrev s_is_even : Stmt := top 14
abbrev N_is_even : List Str := ["thing"]
abbrev P_is_even : List Str := ["thing"]
theorem sc_is_even : FnScope N_is_even P_is_even (defScope s_is_even) := ⟨rfl, rfl, rfl, by decide +kernel, rfl, by decide +kernel, by decide +kernel⟩
def spIsE (K : PySem.W.Frag) (n : Nat) : Sp := fun vs H Q _ => ∃ (v : V) (d : PyData), vs = [v] ∧ Dp K H v d ∧ Fs (n + 1) d ∧ ∀ b H', (b = true ↔ EvD d) → Same H H' → Q (.bl b) H'
section
variable {P : Program} {w : World} {K : PySem.W.Frag} {mg : Str → Option Value} {base : Heap}
theorem ok_isE {f f1 f2 : Addr} {fd d1 d2 : FuncData} {n : Nat} (F : Fun K "is_even" "is_even" s_is_even f fd) (T : Blt mg) (D_first_unlike : Df K mg "first_unlike" s_first_unlike P_first_unlike f1 d1) (D_are_alike : Df K mg "are_alike" s_are_alike P_are_alike f2 d2) : FnOk P w K mg base CX0 (n + 3) f fd P_is_even (spIsE K n) := by
  have G_first_unlike : FnOk P w K mg base CX0 (n + 2) f1 d1 P_first_unlike (spFU K n) := ok_fu D_first_unlike.F T D_are_alike
  have nd := sc_is_even.nd
  refine F.ok sc_is_even (fun vs H Q E h => ?_) (fun cdv A outer s H vs Q E hr h => ?_)
  · obtain ⟨v, d, rfl, _⟩ := h
    rfl
  · obtain ⟨v, d, rfl, hd, hf, q⟩ := h
    refine ⟨_, (pss_cons (ps_if (PW.pt (pw_or (pt_not (pt_val (pe_callB (r := rIsi K) call_isi (by rfl) T.b_isinstance (by decide +kernel) (pa_cons (pv 0) (pa_cons (pe_bltn (v := .ty "list") (by rfl) T.b_list (by decide +kernel) rfl) pa_nil))))) (pw_or (pt_cmpR op_lt (pe_callB (r := rLenQ K) call_len_seq (by rfl) T.b_len (by decide +kernel) (pa_cons (pv 0) pa_nil)) (pe_int) (nomark _)) (pw_or1 (pt_cmpR op_ne (pe_op op_mod (pe_callB (r := rLenQ K) call_len_seq (by rfl) T.b_len (by decide +kernel) (pa_cons (pv 0) pa_nil)) (pe_int)) (pe_int) (nomark _)))))) (pss_one (ps_ret (pe_bl))) pss_nil)
      (pss_one (ps_ret (pe_cmpR op_eq (pe_call G_first_unlike (hr.mono (by omega)) (by rfl) D_first_unlike.g D_first_unlike.F.kp D_first_unlike.b .nil pass0 (pa_cons (pv 0) pa_nil)) (pe_int) (nomark _))))), ?_⟩
    have kd := kdD hd
    have ty := kd.ty
    obtain ⟨k1, k2, k3, k4, k5⟩ := kd.kit
    have q0 : (¬ EvD d) → Q (.bl false) H := fun h => q false H ⟨fun z => (by cases z), fun z => absurd z h⟩ (Same.refl _)
    cases hd with
    | lst hs ha =>
      rename_i a xs ds
      have el := dpall_len ha
      have hS : SqL K H a xs ∨ SqT K H a xs := .inl hs
      walk_at "ev"
      refine ite2 (fun c => ?_) (fun c => ?_) <;> simp at c
      · walk_at "ev"
        exact q0 (fun ⟨es, e, e2, _⟩ => by cases e; omega)
      walk_at "ev"
      refine ite2 (fun c2 => ?_) (fun c2 => ?_) <;> simp at c2
      · walk_at "ev"
        exact q0 (fun ⟨es, e, e2, e3, _⟩ => by cases e; omega)
      have hev : ds.length % 2 = 0 := by omega
      have hl4 : ds.length ≤ 4000 := hf.1.1
      have hfs : ∀ e ∈ ds, Fs n e := fun e he => hf.lst he
      walk_at "ev"
      intro r H1 hb sm1
      walk_at "ev"
      refine q _ H1 ?_ sm1
      simp only [decide_eq_true_eq]
      constructor
      · intro z
        have : r = 0 := by have := V.int.inj z; omega
        subst this
        exact ⟨ds, rfl, by omega, hev, hb⟩
      · rintro ⟨es, e, e2, e3, e4⟩
        cases e
        rw [hb.uniq e4]
        rfl
    | _ =>
      walk_at "ev"
      exact q0 (fun ⟨es, e, _⟩ => by cases e)
end
abbrev s_half_of : Stmt := top 15
abbrev N_half_of : List Str := ["row", "place"]
abbrev P_half_of : List Str := ["row"]
theorem sc_half_of : FnScope N_half_of P_half_of (defScope s_half_of) := ⟨rfl, rfl, rfl, by decide +kernel, rfl, by decide +kernel, by decide +kernel⟩
def spHalf (K : PySem.W.Frag) (C : Addr) (n : Nat) : Sp := fun vs H Q E => ∃ (a : Addr) (xs : List V) (ds : List PyData), vs = [.ref a] ∧ SqL K H a xs ∧ DpAll K H xs ds ∧ ds.length ≤ 4000 ∧ (∀ e ∈ ds, Fs n e) ∧
  (ds.length % 2 = 0 → IsBad ds 0 → ∀ p H', H p = none → Same H H' → H' p = some (.lst (xs.take (xs.length / 2 + 1))) → Q (.ref p) H') ∧ (ds.length % 2 ≠ 0 → ∀ d H', Wh H H' d (.int ds.length) → E (.ref C) (some d) H') ∧ (ds.length % 2 = 0 → ∀ r, r ≠ 0 → IsBad ds r → ∀ d H', Wh H H' d (.int (r : Nat)) → E (.ref C) (some d) H')
def spHalfT (K : PySem.W.Frag) (C : Addr) (n : Nat) : Sp := fun vs H Q E => ∃ (a : Addr) (xs : List V) (ds : List PyData), vs = [.ref a] ∧ SqT K H a xs ∧ DpAll K H xs ds ∧ ds.length ≤ 4000 ∧ (∀ e ∈ ds, Fs n e) ∧
  (ds.length % 2 = 0 → IsBad ds 0 → ∀ p H', H p = none → Same H H' → H' p = some (.lst (xs.take (xs.length / 2 + 1))) → Q (.ref p) H') ∧ (ds.length % 2 ≠ 0 → ∀ d H', Wh H H' d (.int ds.length) → E (.ref C) (some d) H') ∧ (ds.length % 2 = 0 → ∀ r, r ≠ 0 → IsBad ds r → ∀ d H', Wh H H' d (.int (r : Nat)) → E (.ref C) (some d) H')
section
variable {P : Program} {w : World} {K : PySem.W.Frag} {mg : Str → Option Value} {base : Heap}
theorem cut_half {xs : List V} : cutV xs none (some ((xs.length : Int) / 2 + 1)) = xs.take (xs.length / 2 + 1) := by
  unfold cutV
  have e : HT.sIx xs.length xs.length (some ((xs.length : Int) / 2 + 1)) = min (xs.length / 2 + 1) xs.length := by
    show (if ((xs.length : Int) / 2 + 1) < 0 then ((xs.length : Int) / 2 + 1 + xs.length).toNat else min ((xs.length : Int) / 2 + 1).toNat xs.length) = _
    rw [if_neg (by omega)]
    congr 1
  have e0 : HT.sIx xs.length 0 none = 0 := by simp [HT.sIx]
  rw [e, e0, List.drop_zero, Nat.sub_zero]
  by_cases c : xs.length / 2 + 1 ≤ xs.length
  · rw [Nat.min_eq_left c]
  · rw [Nat.min_eq_right (by omega), List.take_of_length_le (Nat.le_refl _), List.take_of_length_le (by omega)]
theorem ok_half {f f1 f2 fI C CT : Addr} {fd d1 d2 fdI : FuncData} {n : Nat} (F : Fun K "half_of" "half_of" s_half_of f fd) (T : Blt mg) (D_first_unlike : Df K mg "first_unlike" s_first_unlike P_first_unlike f1 d1) (D_are_alike : Df K mg "are_alike" s_are_alike P_are_alike f2 d2) (x : XI K fI fdI)
    (R : Ref K CT C fI) (M_NotEven : mg "NotEven" = some (.ref C)) : FnOk P w K mg base (L2.CX P w) (n + 3) f fd P_half_of (spHalf K C n) := by
  have G_init : FnOk P w K mg base CX0 1 fI fdI N_init (spInit K) := ok_init x.F
  have G_first_unlike : FnOk P w K mg base CX0 (n + 2) f1 d1 P_first_unlike (spFU K n) := ok_fu D_first_unlike.F T D_are_alike
  have I_ty := x.ty
  have I_b := x.b
  have EK_NotEven := R.ek
  have II_NotEven := R.ini
  have nd := sc_half_of.nd
  refine F.okX sc_half_of (fun vs H Q E h => ?_) (fun cdv A outer s H vs Q E hr h => ?_)
  · obtain ⟨a, xs, ds, rfl, _⟩ := h
    rfl
  · obtain ⟨a, xs, ds, rfl, hs, ha, hl, hfs, qy, qn, qr⟩ := h
    refine ⟨_, (pss_cons (ps_if (pt_cmpR op_ne (pe_op op_mod (pe_callB (r := rLenQ K) call_len_seq (by rfl) T.b_len (by decide +kernel) (pa_cons (pv 0) pa_nil)) (pe_int)) (pe_int) (nomark _)) (pss_one (ps_raise rfl (takes_of rfl rfl rfl rfl) (pmk_oex EK_NotEven.oex II_NotEven I_ty G_init (hr.mono (by omega)) I_b .nil pass0 (by rfl) M_NotEven (pa_cons (pe_callB (r := rLenQ K) call_len_seq (by rfl) T.b_len (by decide +kernel) (pa_cons (pv 0) pa_nil)) pa_nil)))) pss_nil)
      (pss_cons (ps_set (i := 1) nd rfl (Or.inl rfl) (pe_call G_first_unlike (hr.mono (by omega)) (by rfl) D_first_unlike.g D_first_unlike.F.kp D_first_unlike.b .nil pass0 (pa_cons (pv 0) pa_nil)))
      (pss_cons (ps_if (pt_cmpR op_ne (pv 1) (pe_int) (nomark _)) (pss_one (ps_raise rfl (takes_of rfl rfl rfl rfl) (pmk_oex EK_NotEven.oex II_NotEven I_ty G_init (hr.mono (by omega)) I_b .nil pass0 (by rfl) M_NotEven (pa_cons (pv 1) pa_nil)))) pss_nil)
      (pss_one (ps_ret (pe_callTy call_list_of (by rfl) T.b_list (by decide +kernel) (pa_cons (pe_slice (r := rSlL K) sl_list (pv 0) po_none (po_some (pe_op op_add (pe_op op_fdiv (pe_callB (r := rLenQ K) call_len_seq (by rfl) T.b_len (by decide +kernel) (pa_cons (pv 0) pa_nil)) (pe_int)) (pe_int)))) pa_nil))))))), ?_⟩
    have el := dpall_len ha
    have hS : SqL K H a xs ∨ SqT K H a xs := .inl hs
    walk_at "ev"
    refine ite2 (fun c => ?_) (fun c => ?_) <;> simp at c
    · have c1 : ds.length % 2 ≠ 0 := by omega
      refine ⟨_, rfl, _, _, rfl, hS, ?_⟩
      refine ⟨(by show 1 ≤ 1000; decide), mk_what R.ek fun d H' hd sm hq => ?_⟩
      rw [el] at hq
      exact qn c1 d H' ⟨hd, sm, hq⟩
    have hev : ds.length % 2 = 0 := by omega
    walk_at "ev"
    intro r H1 hb sm1
    walk_at "ev"
    refine ite2 (fun c2 => ?_) (fun c2 => ?_) <;> simp at c2
    · have c3 : r ≠ 0 := by omega
      walk_at "ev"
      refine mk_what R.ek fun d H' hd sm hq => ?_
      exact qr hev r c3 hb d H' ⟨sm1.free hd, sm1.trans sm, hq⟩
    have c3 : r = 0 := by omega
    subst c3
    have hs1 := sm1.seq hs
    have hS1 : SqL K H1 a xs ∨ SqT K H1 a xs := .inl hs1
    walk_at "ev"
    w_cond _2
    rw [cut_half] at hq2
    have hL2 := SqL.of (K := K) hq2
    walk_at "ev"
    w_cond _3
    exact qy hev hb l3 H3 ((sm1.trans sm2).free hl3) (sm1.trans (sm2.trans sm3)) hq3
theorem ok_halfT {f f1 f2 fI C CT : Addr} {fd d1 d2 fdI : FuncData} {n : Nat} (F : Fun K "half_of" "half_of" s_half_of f fd) (T : Blt mg) (D_first_unlike : Df K mg "first_unlike" s_first_unlike P_first_unlike f1 d1) (D_are_alike : Df K mg "are_alike" s_are_alike P_are_alike f2 d2) (x : XI K fI fdI)
    (R : Ref K CT C fI) (M_NotEven : mg "NotEven" = some (.ref C)) : FnOk P w K mg base (L2.CX P w) (n + 3) f fd P_half_of (spHalfT K C n) := by
  have G_init : FnOk P w K mg base CX0 1 fI fdI N_init (spInit K) := ok_init x.F
  have G_first_unlike : FnOk P w K mg base CX0 (n + 2) f1 d1 P_first_unlike (spFU K n) := ok_fu D_first_unlike.F T D_are_alike
  have I_ty := x.ty
  have I_b := x.b
  have EK_NotEven := R.ek
  have II_NotEven := R.ini
  have nd := sc_half_of.nd
  refine F.okX sc_half_of (fun vs H Q E h => ?_) (fun cdv A outer s H vs Q E hr h => ?_)
  · obtain ⟨a, xs, ds, rfl, _⟩ := h
    rfl
  · obtain ⟨a, xs, ds, rfl, hs, ha, hl, hfs, qy, qn, qr⟩ := h
    refine ⟨_, (pss_cons (ps_if (pt_cmpR op_ne (pe_op op_mod (pe_callB (r := rLenQ K) call_len_seq (by rfl) T.b_len (by decide +kernel) (pa_cons (pv 0) pa_nil)) (pe_int)) (pe_int) (nomark _)) (pss_one (ps_raise rfl (takes_of rfl rfl rfl rfl) (pmk_oex EK_NotEven.oex II_NotEven I_ty G_init (hr.mono (by omega)) I_b .nil pass0 (by rfl) M_NotEven (pa_cons (pe_callB (r := rLenQ K) call_len_seq (by rfl) T.b_len (by decide +kernel) (pa_cons (pv 0) pa_nil)) pa_nil)))) pss_nil)
      (pss_cons (ps_set (i := 1) nd rfl (Or.inl rfl) (pe_call G_first_unlike (hr.mono (by omega)) (by rfl) D_first_unlike.g D_first_unlike.F.kp D_first_unlike.b .nil pass0 (pa_cons (pv 0) pa_nil)))
      (pss_cons (ps_if (pt_cmpR op_ne (pv 1) (pe_int) (nomark _)) (pss_one (ps_raise rfl (takes_of rfl rfl rfl rfl) (pmk_oex EK_NotEven.oex II_NotEven I_ty G_init (hr.mono (by omega)) I_b .nil pass0 (by rfl) M_NotEven (pa_cons (pv 1) pa_nil)))) pss_nil)
      (pss_one (ps_ret (pe_callTy call_list_of (by rfl) T.b_list (by decide +kernel) (pa_cons (pe_slice (r := rSlA K) sl_tupA (pv 0) po_none (po_some (pe_op op_add (pe_op op_fdiv (pe_callB (r := rLenQ K) call_len_seq (by rfl) T.b_len (by decide +kernel) (pa_cons (pv 0) pa_nil)) (pe_int)) (pe_int)))) pa_nil))))))), ?_⟩
    have el := dpall_len ha
    have hS : SqL K H a xs ∨ SqT K H a xs := .inr hs
    walk_at "ev"
    refine ite2 (fun c => ?_) (fun c => ?_) <;> simp at c
    · have c1 : ds.length % 2 ≠ 0 := by omega
      refine ⟨_, rfl, _, _, rfl, hS, ?_⟩
      refine ⟨(by show 1 ≤ 1000; decide), mk_what R.ek fun d H' hd sm hq => ?_⟩
      rw [el] at hq
      exact qn c1 d H' ⟨hd, sm, hq⟩
    have hev : ds.length % 2 = 0 := by omega
    walk_at "ev"
    intro r H1 hb sm1
    walk_at "ev"
    refine ite2 (fun c2 => ?_) (fun c2 => ?_) <;> simp at c2
    · have c3 : r ≠ 0 := by omega
      walk_at "ev"
      refine mk_what R.ek fun d H' hd sm hq => ?_
      exact qr hev r c3 hb d H' ⟨sm1.free hd, sm1.trans sm, hq⟩
    have c3 : r = 0 := by omega
    subst c3
    have hs1 := same_t sm1 hs
    have hS1 : SqL K H1 a xs ∨ SqT K H1 a xs := .inr hs1
    walk_at "ev"
    refine ⟨fun hw => ?_, fun hw => ?_⟩
    · have ez : xs.take (xs.length / 2 + 1) = xs := by
        have z : (if ((xs.length : Int) / 2 + 1) < 0 then ((xs.length : Int) / 2 + 1 + xs.length).toNat else min ((xs.length : Int) / 2 + 1).toNat xs.length) = xs.length := hw.2
        rw [if_neg (by omega)] at z
        exact List.take_of_length_le (by omega)
      rw [ez] at qy
      walk_at "ev"
      w_cond _3
      exact qy hev hb l3 H3 (sm1.free hl3) (sm1.trans sm3) hq3
    w_cond _2
    rw [cut_half] at hq2
    have hL2 := SqT.of (K := K) hq2
    walk_at "ev"
    w_cond _3
    exact qy hev hb l3 H3 ((sm1.trans sm2).free hl3) (sm1.trans (sm2.trans sm3)) hq3
end
section
open PySem.Spec PyProof.Rows
variable {X : Cx}
/-- l.count(x), by what they are -/
def rCntD (K : PySem.W.Frag) : V → List V → Hp → VK → Prop := fun x xs H Q => ∃ (a : Addr) (y : V) (d : PyData) (ds : List PyData), x = V.ref a ∧ xs = [y] ∧ Dp K H (V.ref a) (.list ds) ∧ Dp K H y d ∧ SeqAt.shaped (.list ds) = true ∧ SeqAt.shaped d = true ∧ Q (.int (ds.countP (fun z => PyData.eqv z d) : Nat)) H
theorem mt_countD (hu : X.A.units + 65 < cLine) : MtR X "list.count" (rCntD X.K) := by
  intro pins s σ H x xs v us Q I rx rxs h
  obtain ⟨a, y, d, ds, rfl, rfl, hl, hy, sl, sd, q⟩ := h
  cases rx
  cases rxs with
  | cons ry rt =>
    rename_i uy ut
    cases rt
    obtain ⟨bs, r1⟩ := Dp.reads I d y uy hy ry
    have hxs : PyData.canLayAll0 ds = true := SeqAt.canLay_of_shaped sl
    have hroom : X.A.units + 1 + min (PyData.depthAll ds) d.depth < cLine := room_in_shaped sd hu
    cases hl with
    | lst hs ha =>
      obtain ⟨its, rv, ⟨⟨cls, dd, data, sls⟩, n, ho, hc, hdn, hdt⟩, hlen⟩ := I.list hs
      simp only at hc hdt
      subst hc hdt
      obtain ⟨as, h4⟩ := Dp.readsAll I ds _ its ha rv
      have hmap : its.map (SeqAt.readOf s.heap) = ds := SeqAt.readsAll_map ds its as hxs h4
      refine call_meets PySem.F.slot_list_count ⟨_, ho, rfl⟩ PySem.F.entry_list_count (PySem.F.args_list_count_2 _ _)
        (SeqAt.list_countAt a its.toArray n dd sls uy (fun u => PyData.eqv (SeqAt.readOf s.heap u) d)) ⟨ho, SeqAt.items_eqAt (vs := its.toArray) (show ReadsAll s.heap its.toArray.toList ds as from h4) r1 hxs (SeqAt.canLay_of_shaped sd) hroom, ?_⟩
      have ec : its.toArray.toList.countP (fun u => PyData.eqv (SeqAt.readOf s.heap u) d) = ds.countP (fun z => PyData.eqv z d) := by
        rw [← hmap, List.countP_map]
        rfl
      refine ⟨.int (ds.countP (fun z => PyData.eqv z d) : Nat), H, I.tok _, ⟨s.toks, ?_⟩, q⟩
      rw [ec]
end
theorem du65 {k : Nat} {A : Around} (h : Room k A) : A.units + 65 < cLine := by
  have := h.un
  omega
abbrev s_even_from : Stmt := top 16
abbrev N_even_from : List Str := ["half"]
abbrev P_even_from : List Str := ["half"]
theorem sc_even_from : FnScope N_even_from P_even_from (defScope s_even_from) := ⟨rfl, rfl, rfl, by decide +kernel, rfl, by decide +kernel, by decide +kernel⟩
def spEf (K : PySem.W.Frag) : Sp := fun vs H Q _ => ∃ (a : Addr) (xs : List V), vs = [.ref a] ∧ SqL K H a xs ∧ 2 ≤ xs.length ∧ xs.length ≤ 1000 ∧ ∀ p H', H p = none → Same H H' → H' p = some (.lst (xs ++ midR xs)) → Q (.ref p) H'
def spEfT (K : PySem.W.Frag) : Sp := fun vs H Q _ => ∃ (a : Addr) (xs : List V), vs = [.ref a] ∧ SqT K H a xs ∧ 2 ≤ xs.length ∧ xs.length ≤ 1000 ∧ ∀ p H', H p = none → Same H H' → H' p = some (.lst (xs ++ midR xs)) → Q (.ref p) H'
theorem midR_len {xs : List V} : (midR xs).length ≤ xs.length := by
  unfold midR
  rw [List.length_reverse, List.length_take, List.length_drop]
  omega
section
variable {P : Program} {w : World} {K : PySem.W.Frag} {mg : Str → Option Value} {base : Heap}
theorem ok_ef {f : Addr} {fd : FuncData} {k : Nat} (F : Fun K "even_from" "even_from" s_even_from f fd) (T : Blt mg) : FnOk P w K mg base CX0 (k + 1) f fd P_even_from (spEf K) := by
  have nd := sc_even_from.nd
  refine F.ok sc_even_from (fun vs H Q E h => ?_) (fun cdv A outer s H vs Q E hr h => ?_)
  · obtain ⟨a, xs, rfl, _⟩ := h
    rfl
  · obtain ⟨a, xs, rfl, hs, h2, hl, q⟩ := h
    refine ⟨_, (pss_one (ps_ret (pe_op op_cat (pe_callTy call_list_of (by rfl) T.b_list (by decide +kernel) (pa_cons (pv 0) pa_nil)) (pe_callTy call_list_of (by rfl) T.b_list (by decide +kernel) (pa_cons (pe_step (r := rStL K) sl_stepL (pv 0) (po_some (pe_un un_neg (pe_int))) (po_some (pe_int)) (po_some (pe_un un_neg (pe_int)))) pa_nil))))), ?_⟩
    walk_at "ev"
    w_cond _1
    have hs1 := sm1.seq hs
    have h0 : (some (-1) : Option Int) ≠ some 0 := by decide
    walk_at "ev"
    w_cond _2
    have hL2 := SqL.of (K := K) hq2
    walk_at "ev"
    w_cond _3
    have e : pickL xs (some (-2)) (some 0) (some (-1)) = midR xs := mid_pickL h2
    rw [e] at hq3
    have hL3 := SqL.of (K := K) hq3
    have hL1 := SqL.of (K := K) ((sm2.trans sm3) _ _ hq1)
    have hm := midR_len (xs := xs)
    have hz : xs.length + (midR xs).length ≤ sizeLine := szl (by omega)
    have hr1 := (sm2.trans sm3) _ _ hq1
    walk_at "ev"
    w_cond _4
    exact q l4 H4 ((sm1.trans (sm2.trans sm3)).free hl4) (sm1.trans (sm2.trans (sm3.trans sm4))) hq4
theorem ok_efT {f : Addr} {fd : FuncData} {k : Nat} (F : Fun K "even_from" "even_from" s_even_from f fd) (T : Blt mg) : FnOk P w K mg base CX0 (k + 1) f fd P_even_from (spEfT K) := by
  have nd := sc_even_from.nd
  refine F.ok sc_even_from (fun vs H Q E h => ?_) (fun cdv A outer s H vs Q E hr h => ?_)
  · obtain ⟨a, xs, rfl, _⟩ := h
    rfl
  · obtain ⟨a, xs, rfl, hs, h2, hl, q⟩ := h
    refine ⟨_, (pss_one (ps_ret (pe_op op_cat (pe_callTy call_list_of (by rfl) T.b_list (by decide +kernel) (pa_cons (pv 0) pa_nil)) (pe_callTy call_list_of (by rfl) T.b_list (by decide +kernel) (pa_cons (pe_step (r := rStT K) sl_stepT (pv 0) (po_some (pe_un un_neg (pe_int))) (po_some (pe_int)) (po_some (pe_un un_neg (pe_int)))) pa_nil))))), ?_⟩
    have e : pickT xs (some (-2)) (some 0) (-1) = midR xs := mid_pickT h2
    have hm := midR_len (xs := xs)
    walk_at "ev"
    w_cond _1
    have hs1 := same_t sm1 hs
    have h0 : (-1 : Int) ≠ 0 := by decide
    have h1 : (-1 : Int) ≠ 1 := by decide
    have hz0 : (pickT xs (some (-2)) (some 0) (-1)).length ≤ sizeLine := szl (by rw [e]; omega)
    walk_at "ev"
    w_cond _2
    have hL2 := SqT.of (K := K) hq2
    walk_at "ev"
    w_cond _3
    rw [e] at hq3
    have hL3 := SqL.of (K := K) hq3
    have hL1 := SqL.of (K := K) ((sm2.trans sm3) _ _ hq1)
    have hz : xs.length + (midR xs).length ≤ sizeLine := szl (by omega)
    have hr1 := (sm2.trans sm3) _ _ hq1
    walk_at "ev"
    w_cond _4
    exact q l4 H4 ((sm1.trans (sm2.trans sm3)).free hl4) (sm1.trans (sm2.trans (sm3.trans sm4))) hq4
end
/-- a comprehension over range(i, j, c) -/
theorem lc_rangeC {lo c : Int} {n : Nat} {g : TG} {tt : TT} {te : TE} {vs : List Nat} {σ : L2.St} {H1 : Hp} {D : Addr} {Qd : Hp → Prop} (Pv : Nat → Hp → Prop) (h0 : Pv 0 (upd H1 D (.lst [])))
    (hs : ∀ (i : Nat) H, i < n → Pv i H → g (.int (lo + i * c)) (wipe σ vs) H fun σ2 H2 => wipe σ2 vs = wipe σ vs ∧ tt σ2 H2 fun b H3 =>
      if b = true then te σ2 H3 fun y H4 => ∃ acc, H4 D = some (.lst acc) ∧ acc.length < sizeLine ∧ Pv (i + 1) (upd H4 D (.lst (acc ++ [y]))) else Pv (i + 1) H3) (hd : ∀ H, Pv n H → Qd H) :
    ∃ W : Nat → Nat → Hp → Prop, (∃ m, W 0 m (upd H1 D (.lst []))) ∧ ∀ i m H, W i m H →
      ((Itc lo c n).stop i H ∧ Qd H) ∨ ((Itc lo c n).go i H ∧ ∃ Nx : Hp → Prop, (∀ H', Nx H' → ∃ m', m' < m ∧ W (i + 1) m' H') ∧ ∀ x H', (Itc lo c n).yld i H x H' → g x (wipe σ vs) H' fun σ2 H2 => wipe σ2 vs = wipe σ vs ∧ tt σ2 H2 fun b H3 =>
        if b = true then te σ2 H3 fun y H4 => ∃ acc, H4 D = some (.lst acc) ∧ acc.length < sizeLine ∧ Nx (upd H4 D (.lst (acc ++ [y]))) else Nx H3) := by
  refine ⟨fun i m H => m = n - i ∧ i ≤ n ∧ Pv i H, ⟨n, by simp, Nat.zero_le _, h0⟩, ?_⟩
  rintro i m H ⟨rfl, hi, p⟩
  by_cases hlt : i < n
  · refine .inr ⟨hlt, Pv (i + 1), fun H' p' => ⟨n - (i + 1), by omega, rfl, hlt, p'⟩, fun x H' y => ?_⟩
    obtain ⟨e, y⟩ := y
    subst e y
    exact hs i _ hlt p
  · have e : i = n := by omega
    subst e
    exact .inl ⟨Nat.le_refl _, hd H p⟩
theorem midR_get {xs : List V} {k : Nat} (h : k < xs.length - 2) : (midR xs)[k]? = xs[xs.length - 2 - k]? := by
  unfold midR
  rw [List.getElem?_reverse (by rw [List.length_take, List.length_drop]; omega), List.length_take, List.length_drop, List.getElem?_take, if_pos (by omega), List.getElem?_drop]
  congr 1
  omega
theorem midR_len2 {xs : List V} (h : 2 ≤ xs.length) : (midR xs).length = xs.length - 2 := by
  unfold midR
  rw [List.length_reverse, List.length_take, List.length_drop]
  omega
abbrev s__law_even_row : Stmt := top 31
abbrev N__law_even_row : List Str := ["_law_half", "_law_k"]
abbrev P__law_even_row : List Str := ["_law_half"]
theorem sc__law_even_row : FnScope N__law_even_row P__law_even_row (defScope s__law_even_row) := ⟨rfl, rfl, rfl, by decide +kernel, rfl, by decide +kernel, by decide +kernel⟩
section
variable {P : Program} {w : World} {K : PySem.W.Frag} {mg : Str → Option Value} {base : Heap}
theorem ok_er {f : Addr} {fd : FuncData} {k : Nat} (F : Fun K "_law_even_row" "_law_even_row" s__law_even_row f fd) (T : Blt mg) : FnOk P w K mg base CX0 (k + 1) f fd P__law_even_row (spEf K) := by
  have nd := sc__law_even_row.nd
  refine F.ok sc__law_even_row (fun vs H Q E h => ?_) (fun cdv A outer s H vs Q E hr h => ?_)
  · obtain ⟨a, xs, rfl, _⟩ := h
    rfl
  · obtain ⟨a, xs, rfl, hs, h2, hl, q⟩ := h
    refine ⟨_, (pss_one (ps_ret (pe_op op_cat (pe_callTy call_list_of (by rfl) T.b_list (by decide +kernel) (pa_cons (pv 0) pa_nil)) (pe_lc (own := [("_law_k", 1)]) (g := gName 1) (by rfl) nd (pi_range3 (by rfl) T.b_range (pa_cons (pe_op op_sub (pe_callB (r := rLenQ K) call_len_seq (by rfl) T.b_len (by decide +kernel) (pa_cons (pv 0) pa_nil)) (pe_int)) (pa_cons (pe_int) (pa_cons (pe_un un_neg (pe_int)) pa_nil)))) (blkOk_by (own := [("_law_k", 1)]) (N := N__law_even_row) (sc := defScope s__law_even_row) (by decide +kernel)) (fun _ _ _ _ _ => (pg_name (i := 1) nd rfl (Or.inl rfl))) (fun _ _ _ _ _ => pts_nil) (fun _ _ _ _ _ => (pe_ix (r := rIxL K) ix_list (pv 0) (pv 1) (fun _ _ => rfl))))))), ?_⟩
    walk_at "ev"
    w_cond _1
    have hs1 := sm1.seq hs
    have hS1 : SqL K H1 a xs ∨ SqT K H1 a xs := .inl hs1
    have rg : RgC ((xs.length : Int) - 2) 0 (-1) ((xs.length : Int) - 2 - 0).toNat := RgC.neg (by omega) (by omega) (by decide) (by decide)
    have en : ((xs.length : Int) - 2 - 0).toNat = xs.length - 2 := by omega
    have ml := midR_len2 h2
    rw [en] at rg
    walk_at "ev"
    intro D hD
    refine lc_rangeC (lo := _) (c := _) (n := _) (fun i H' => Hold (Same H1 H' ∧ H' D = some (.lst ((midR xs).take i)))) (.mk ⟨same_new hD, upd_same⟩) ?_ ?_
    · intro i H2 hi hP
      obtain ⟨sm2, hD2⟩ := hP.un
      have hs2 := sm2.seq hs1
      obtain ⟨v, hv⟩ : ∃ v, xs[xs.length - 2 - i]? = some v := ⟨_, List.getElem?_eq_getElem (by omega)⟩
      have hat : atI xs ((xs.length : Int) - 2 + (i : Int) * -1) = some v := at_of (j := xs.length - 2 - i) (by omega) hv
      have hsz : ((midR xs).take i).length < sizeLine := szm (by rw [List.length_take]; omega)
      walk_at "ev"
      refine .mk ⟨same_mut sm2 hD, ?_⟩
      rw [upd_same, List.take_add_one, midR_get hi, hv]
      rfl
    · intro H2 hP
      obtain ⟨sm2, hD2⟩ := hP.un
      rw [List.take_of_length_le (by omega)] at hD2
      have hL1 := SqL.of (K := K) (sm2 _ _ hq1)
      have hL2 := SqL.of (K := K) hD2
      have hz : xs.length + (midR xs).length ≤ sizeLine := szl (by omega)
      have hr1 := sm2 _ _ hq1
      walk_at "ev"
      w_cond _4
      exact q l4 H4 ((sm1.trans sm2).free hl4) (sm1.trans (sm2.trans sm4)) hq4
end
abbrev s__law_bad_place : Stmt := top 33
abbrev N__law_bad_place : List Str := ["_law_row_here", "_law_place"]
abbrev P__law_bad_place : List Str := ["_law_row_here"]
theorem sc__law_bad_place : FnScope N__law_bad_place P__law_bad_place (defScope s__law_bad_place) := ⟨rfl, rfl, rfl, by decide +kernel, rfl, by decide +kernel, by decide +kernel⟩
def spBP (K : PySem.W.Frag) (n : Nat) : Sp := fun vs H Q _ => ∃ (a : Addr) (xs : List V) (ds : List PyData), vs = [.ref a] ∧ SqL K H a xs ∧ DpAll K H xs ds ∧ ds.length ≤ 4000 ∧ (∀ e ∈ ds, Fs n e) ∧ ∀ (r : Nat) H', IsBad ds r → Same H H' → Q (.int r) H'
section
variable {P : Program} {w : World} {K : PySem.W.Frag} {mg : Str → Option Value} {base : Heap}
theorem ok_bp {f f1 : Addr} {fd d1 : FuncData} {n : Nat} (F : Fun K "_law_bad_place" "_law_bad_place" s__law_bad_place f fd) (T : Blt mg) (D__law_same : Df K mg "_law_same" s__law_same P__law_same f1 d1) : FnOk P w K mg base CX0 (n + 2) f fd P__law_bad_place (spBP K n) := by
  have G__law_same : FnOk P w K mg base CX0 (n + 1) f1 d1 P__law_same (spDsm K n) := ok_dsm D__law_same T n
  have nd := sc__law_bad_place.nd
  refine F.ok sc__law_bad_place (fun vs H Q E h => ?_) (fun cdv A outer s H vs Q E hr h => ?_)
  · obtain ⟨a, xs, ds, rfl, _⟩ := h
    rfl
  · obtain ⟨a, xs, ds, rfl, hS, hD, hl, hfs, q⟩ := h
    refine ⟨_, (pss_cons (ps_for PassesOwn.never rfl (pi_range2 (by rfl) T.b_range (pa_cons (pe_int) (pa_cons (pe_callB (r := rLenQ K) call_len_seq (by rfl) T.b_len (by decide +kernel) (pa_cons (pv 0) pa_nil)) pa_nil))) (pg_name (i := 1) nd rfl (Or.inl rfl))
      (pss_one (ps_if (PW.pt (pw_and (pt_cmpR op_lt (pv 1) (pe_op op_sub (pe_callB (r := rLenQ K) call_len_seq (by rfl) T.b_len (by decide +kernel) (pa_cons (pv 0) pa_nil)) (pv 1)) (nomark _)) (pw_and1 (pt_not (pt_val (pe_call G__law_same (hr.mono (by omega)) (by rfl) D__law_same.g D__law_same.F.kp D__law_same.b .nil pass0 (pa_cons (pe_ix (r := rIxL K) ix_list (pv 0) (pv 1) (fun _ _ => rfl)) (pa_cons (pe_ix (r := rIxL K) ix_list (pv 0) (pe_op op_sub (pe_callB (r := rLenQ K) call_len_seq (by rfl) T.b_len (by decide +kernel) (pa_cons (pv 0) pa_nil)) (pv 1)) (fun _ _ => rfl)) pa_nil)))))))) (pss_one (ps_ret (pv 1))) pss_nil)))
      (pss_one (ps_ret (pe_int)))), ?_⟩
    have el := dpall_len hD
    have hS0 : SqL K H a xs ∨ SqT K H a xs := .inl hS
    walk_at "ev"
    refine for_range (lo := 1) (n := _) (fun i σ H' => Hold (∃ y1, σ = [some (.ref a), y1] ∧ Same H H' ∧ ∀ p, 1 ≤ p → p < 1 + i → 2 * p < ds.length → ds[p]? = ds[ds.length - p]?)) (.mk ⟨_, rfl, Same.refl _, fun p h1 h2 => by omega⟩) ?_ ?_
    · intro i σ H1 hi hP
      obtain ⟨y1, rfl, sm1, hp⟩ := hP.un
      have hS1 := sm1.seq hS
      have hS2 : SqL K H1 a xs ∨ SqT K H1 a xs := .inl hS1
      walk_at "ev"
      refine ite2 (fun c => ?_) (fun c => ?_) <;> simp at c
      · have hi2 : 2 * (1 + i) < ds.length := by omega
        obtain ⟨v1, d1, e1, g1, dp1⟩ := dpall_ix hD (show 1 + i < ds.length by omega)
        obtain ⟨v2, d2, e2, g2, dp2⟩ := dpall_ix hD (show ds.length - (1 + i) < ds.length by omega)
        have a1 : atI xs (1 + (i : Int)) = some v1 := at_of (j := 1 + i) (by omega) e1
        have a2 : atI xs ((xs.length : Int) - (1 + (i : Int))) = some v2 := at_of (j := ds.length - (1 + i)) (by omega) e2
        have h1 := dp_same sm1 dp1
        have h2 := dp_same sm1 dp2
        have f1 := hfs _ (List.mem_of_getElem? g1)
        have f2 := hfs _ (List.mem_of_getElem? g2)
        walk_at "ev"
        intro H2 sm2
        cases hb : deq d1 d2 with
        | true =>
          have ed := deq_iff.mp hb
          walk_at "ev"
          refine .mk ⟨_, rfl, sm1.trans sm2, fun p h1 h2 h3 => ?_⟩
          by_cases c : p = 1 + i
          · rw [c, g1, g2, ed]
          · exact hp p h1 (by omega) h3
        | false =>
          walk_at "ev"
          have := q (1 + i) H2 (.inr ⟨by omega, hi2, fun z => ?_, fun p h1 h2 => hp p h1 h2 (by omega)⟩) (sm1.trans sm2)
          · rw [show ((1 + i : Nat) : Int) = 1 + (i : Int) by omega] at this
            exact this
          · rw [g1, g2] at z
            rw [deq_t (Option.some.inj z)] at hb
            cases hb
      · walk_at "ev"
        exact .mk ⟨_, rfl, sm1, fun p h1 h2 h3 => hp p h1 (by omega) h3⟩
    · intro σ H1 hP
      obtain ⟨y1, rfl, sm1, hp⟩ := hP.un
      walk_at "ev"
      exact q 0 H1 (.inl ⟨rfl, fun p h1 h2 => hp p h1 (by omega) h2⟩) sm1
end
abbrev s__law_is_so : Stmt := top 36
abbrev N__law_is_so : List Str := ["_law_thing"]
abbrev P__law_is_so : List Str := ["_law_thing"]
theorem sc__law_is_so : FnScope N__law_is_so P__law_is_so (defScope s__law_is_so) := ⟨rfl, rfl, rfl, by decide +kernel, rfl, by decide +kernel, by decide +kernel⟩
section
variable {P : Program} {w : World} {K : PySem.W.Frag} {mg : Str → Option Value} {base : Heap}
theorem ok_iso {f f1 f2 : Addr} {fd d1 d2 : FuncData} {n : Nat} (F : Fun K "_law_is_so" "_law_is_so" s__law_is_so f fd) (T : Blt mg) (D__law_bad_place : Df K mg "_law_bad_place" s__law_bad_place P__law_bad_place f1 d1) (D__law_same : Df K mg "_law_same" s__law_same P__law_same f2 d2) : FnOk P w K mg base CX0 (n + 3) f fd P__law_is_so (spIsE K n) := by
  have G__law_bad_place : FnOk P w K mg base CX0 (n + 2) f1 d1 P__law_bad_place (spBP K n) := ok_bp D__law_bad_place.F T D__law_same
  have nd := sc__law_is_so.nd
  refine F.ok sc__law_is_so (fun vs H Q E h => ?_) (fun cdv A outer s H vs Q E hr h => ?_)
  · obtain ⟨v, d, rfl, _⟩ := h
    rfl
  · obtain ⟨v, d, rfl, hd, hf, q⟩ := h
    refine ⟨_, (pss_one (ps_ret (pe_and (pe_callB (r := rIsi K) call_isi (by rfl) T.b_isinstance (by decide +kernel) (pa_cons (pv 0) (pa_cons (pe_bltn (v := .ty "list") (by rfl) T.b_list (by decide +kernel) rfl) pa_nil))) (pe_and (pe_cmpR op_gt (pe_callB (r := rLenQ K) call_len_seq (by rfl) T.b_len (by decide +kernel) (pa_cons (pv 0) pa_nil)) (pe_int) (nomark _)) (pe_and (pe_cmpR op_eq (pe_op op_mod (pe_callB (r := rLenQ K) call_len_seq (by rfl) T.b_len (by decide +kernel) (pa_cons (pv 0) pa_nil)) (pe_int)) (pe_int) (nomark _)) (pe_one (pe_cmpR op_eq (pe_call G__law_bad_place (hr.mono (by omega)) (by rfl) D__law_bad_place.g D__law_bad_place.F.kp D__law_bad_place.b .nil pass0 (pa_cons (pv 0) pa_nil)) (pe_int) (nomark _)))))))), ?_⟩
    have kd := kdD hd
    have ty := kd.ty
    obtain ⟨k1, k2, k3, k4, k5⟩ := kd.kit
    have q0 : (¬ EvD d) → Q (.bl false) H := fun h => q false H ⟨fun z => (by cases z), fun z => absurd z h⟩ (Same.refl _)
    cases hd with
    | lst hs ha =>
      rename_i a xs ds
      have el := dpall_len ha
      have hS : SqL K H a xs ∨ SqT K H a xs := .inl hs
      have hl4 : ds.length ≤ 4000 := hf.1.1
      have hfs : ∀ e ∈ ds, Fs n e := fun e he => hf.lst he
      walk_at "ev"
      by_cases c : 1 < xs.length
      · refine iteTe (decide_eq_true (by omega)) ?_
        walk_at "ev"
        by_cases c2 : xs.length % 2 = 0
        · refine iteTe (decide_eq_true (congrArg V.int (show ((xs.length : Int) % 2) = 0 by omega))) ?_
          walk_at "ev"
          intro r H1 hb sm1
          walk_at "ev"
          refine q _ H1 ?_ sm1
          simp only [decide_eq_true_eq]
          constructor
          · intro z
            have : r = 0 := by have := V.int.inj z; omega
            subst this
            exact ⟨ds, rfl, by omega, by omega, hb⟩
          · rintro ⟨es, e, e2, e3, e4⟩
            cases e
            rw [hb.uniq e4]
            rfl
        · refine iteFe (decide_eq_false fun z => c2 (by have := V.int.inj z; omega)) ?_
          walk_at "ev"
          exact q0 (fun ⟨es, e, e2, e3, _⟩ => by cases e; omega)
      · refine iteFe (decide_eq_false (by omega)) ?_
        walk_at "ev"
        exact q0 (fun ⟨es, e, e2, _⟩ => by cases e; omega)
    | _ =>
      walk_at "ev"
      exact q0 (fun ⟨es, e, _⟩ => by cases e)
end
def WayL (xs : List V) (ds : List PyData) (ys : List V) : Prop := (ds.length % 2 = 0 ∧ IsBad ds 0 ∧ ys = xs.take (xs.length / 2 + 1)) ∨ (ds.length % 2 ≠ 0 ∧ ys = [.str "NotEven", .int ds.length]) ∨ (ds.length % 2 = 0 ∧ ∃ r : Nat, r ≠ 0 ∧ IsBad ds r ∧ ys = [.str "NotEven", .int r])
theorem WayL.uniq {xs : List V} {ds : List PyData} {ys zs : List V} (h : WayL xs ds ys) (h' : WayL xs ds zs) : ys = zs := by
  rcases h with ⟨a, b, c⟩ | ⟨a, c⟩ | ⟨a, r, b, b2, c⟩ <;> rcases h' with ⟨a', b', c'⟩ | ⟨a', c'⟩ | ⟨a', r', b', b2', c'⟩
  · rw [c, c']
  · omega
  · exact absurd (b.uniq b2') b'.symm
  · omega
  · rw [c, c']
  · omega
  · exact absurd (b'.uniq b2) b.symm
  · omega
  · rw [c, c', b2.uniq b2']
abbrev s__law_due : Stmt := top 34
abbrev N__law_due : List Str := ["_law_thing", "_law_place"]
abbrev P__law_due : List Str := ["_law_thing"]
theorem sc__law_due : FnScope N__law_due P__law_due (defScope s__law_due) := ⟨rfl, rfl, rfl, by decide +kernel, rfl, by decide +kernel, by decide +kernel⟩
def spDue (K : PySem.W.Frag) (n : Nat) : Sp := fun vs H Q _ => ∃ (a : Addr) (xs : List V) (ds : List PyData), vs = [.ref a] ∧ SqL K H a xs ∧ DpAll K H xs ds ∧ ds.length ≤ 4000 ∧ (∀ e ∈ ds, Fs n e) ∧ ∀ p ys H', WayL xs ds ys → H p = none → Same H H' → H' p = some (.lst ys) → Q (.ref p) H'
section
variable {P : Program} {w : World} {K : PySem.W.Frag} {mg : Str → Option Value} {base : Heap}
theorem ok_due {f f1 f2 : Addr} {fd d1 d2 : FuncData} {n : Nat} (F : Fun K "_law_due" "_law_due" s__law_due f fd) (T : Blt mg) (D__law_bad_place : Df K mg "_law_bad_place" s__law_bad_place P__law_bad_place f1 d1) (D__law_same : Df K mg "_law_same" s__law_same P__law_same f2 d2) : FnOk P w K mg base CX0 (n + 3) f fd P__law_due (spDue K n) := by
  have G__law_bad_place : FnOk P w K mg base CX0 (n + 2) f1 d1 P__law_bad_place (spBP K n) := ok_bp D__law_bad_place.F T D__law_same
  have nd := sc__law_due.nd
  refine F.ok sc__law_due (fun vs H Q E h => ?_) (fun cdv A outer s H vs Q E hr h => ?_)
  · obtain ⟨a, xs, ds, rfl, _⟩ := h
    rfl
  · obtain ⟨a, xs, ds, rfl, hs, ha, hl, hfs, q⟩ := h
    refine ⟨_, (pss_cons (ps_if (pt_cmpR op_eq (pe_op op_mod (pe_callB (r := rLenQ K) call_len_seq (by rfl) T.b_len (by decide +kernel) (pa_cons (pv 0) pa_nil)) (pe_int)) (pe_int) (nomark _)) (pss_one (ps_ret (pe_lst (pa_cons (pe_str) (pa_cons (pe_callB (r := rLenQ K) call_len_seq (by rfl) T.b_len (by decide +kernel) (pa_cons (pv 0) pa_nil)) pa_nil))))) pss_nil)
      (pss_cons (ps_set (i := 1) nd rfl (Or.inl rfl) (pe_call G__law_bad_place (hr.mono (by omega)) (by rfl) D__law_bad_place.g D__law_bad_place.F.kp D__law_bad_place.b .nil pass0 (pa_cons (pv 0) pa_nil)))
      (pss_one (ps_ret (pe_ifExp (pt_cmpR op_eq (pv 1) (pe_int) (nomark _)) (pe_callTy call_list_of (by rfl) T.b_list (by decide +kernel) (pa_cons (pe_slice (r := rSlL K) sl_list (pv 0) po_none (po_some (pe_op op_add (pe_op op_fdiv (pe_callB (r := rLenQ K) call_len_seq (by rfl) T.b_len (by decide +kernel) (pa_cons (pv 0) pa_nil)) (pe_int)) (pe_int)))) pa_nil)) (pe_lst (pa_cons (pe_str) (pa_cons (pv 1) pa_nil)))))))), ?_⟩
    have el := dpall_len ha
    have hS : SqL K H a xs ∨ SqT K H a xs := .inl hs
    walk_at "ev"
    by_cases c : xs.length % 2 = 1
    · refine iteTe (decide_eq_true (congrArg V.int (show ((xs.length : Int) % 2) = 1 by omega))) ?_
      walk_at "ev"
      w_cond _1
      rw [el] at hq1
      exact q l1 _ H1 (.inr (.inl ⟨by omega, rfl⟩)) hl1 sm1 hq1
    refine iteFe (decide_eq_false fun z => c (by have := V.int.inj z; omega)) ?_
    walk_at "ev"
    intro r H1 hb sm1
    walk_at "ev"
    have hs1 := sm1.seq hs
    have hS1 : SqL K H1 a xs ∨ SqT K H1 a xs := .inl hs1
    by_cases c2 : r = 0
    · subst c2
      refine iteTe rfl ?_
      walk_at "ev"
      w_cond _2
      rw [cut_half] at hq2
      have hL2 := SqL.of (K := K) hq2
      walk_at "ev"
      w_cond _3
      exact q l3 _ H3 (.inl ⟨by omega, hb, rfl⟩) ((sm1.trans sm2).free hl3) (sm1.trans (sm2.trans sm3)) hq3
    · refine iteFe (decide_eq_false fun z => c2 (by have := V.int.inj z; omega)) ?_
      walk_at "ev"
      w_cond _2
      exact q l2 _ H2 (.inr (.inr ⟨by omega, r, c2, hb, rfl⟩)) (sm1.free hl2) (sm1.trans sm2) hq2
end
theorem pi_tupK {X : Cx} {K : PySem.W.Frag} {tg l : Expr} {tl : TE} (hK : X.K = K) (hl : PE X l tl) : PI X tg l (iTup K tl) := hK ▸ pi_tup hl
abbrev s__law_is_row : Stmt := top 39
abbrev N__law_is_row : List Str := ["_law_thing", "_law_one", "_law_part"]
abbrev P__law_is_row : List Str := ["_law_thing"]
theorem sc__law_is_row : FnScope N__law_is_row P__law_is_row (defScope s__law_is_row) := ⟨rfl, rfl, rfl, by decide +kernel, rfl, by decide +kernel, by decide +kernel⟩
def isTp : PyData → Bool
  | .tuple _ => true
  | _ => false
def spRow (K : PySem.W.Frag) : Sp := fun vs H Q _ => ∃ (a : Addr) (xs : List V) (ds : List PyData), vs = [.ref a] ∧ SqL K H a xs ∧ DpAll K H xs ds ∧ Fs 4 (.list ds) ∧ ∀ (b : Bool) H', Same H H' → Q (.bl b) H'
theorem tps_of {K : PySem.W.Frag} {H : Hp} : ∀ {xs : List V} {ds : List PyData}, DpAll K H xs ds → ds.all isTp = true → ∀ v ∈ xs, ∃ a ys, v = .ref a ∧ SqT K H a ys ∧ ∃ es, DpAll K H ys es ∧ PyData.tuple es ∈ ds
  | _, _, .nil, _ => fun v hv => by cases hv
  | _, _, .cons (d := d) h q, e => fun v hv => by
    rw [List.all_cons, Bool.and_eq_true] at e
    rcases List.mem_cons.mp hv with z | z
    · subst z
      cases h with
      | tup hs ha => exact ⟨_, _, rfl, hs, _, ha, List.mem_cons_self⟩
      | _ => cases e.1
    · obtain ⟨a, ys, h1, h2, es, h3, h4⟩ := tps_of q e.2 v z
      exact ⟨a, ys, h1, h2, es, h3, List.mem_cons_of_mem _ h4⟩
theorem nat_ints : ∀ (l : List Nat), l.map (fun n : Nat => V.int n) = (l.map Int.ofNat).map V.int := fun l => by
  rw [List.map_map]
  rfl
section
variable {P : Program} {w : World} {K : PySem.W.Frag} {mg : Str → Option Value} {base : Heap}
theorem ok_row {f : Addr} {fd : FuncData} {k : Nat} (F : Fun K "_law_is_row" "_law_is_row" s__law_is_row f fd) (T : Blt mg) : FnOk P w K mg base CX0 (k + 1) f fd P__law_is_row (spRow K) := by
  have nd := sc__law_is_row.nd
  refine F.ok sc__law_is_row (fun vs H Q E h => ?_) (fun cdv A outer s H vs Q E hr h => ?_)
  · obtain ⟨a, xs, ds, rfl, _⟩ := h
    rfl
  · obtain ⟨a, xs, ds, rfl, hs, ha, hf, q⟩ := h
    have el := dpall_len ha
    have hl4 : ds.length ≤ 4000 := hf.1.1
    have hfs : ∀ e ∈ ds, Fs 3 e := fun e he => hf.lst he
    obtain ⟨tl, htl, fin⟩ : ∃ tl, PSs (cxOf CX0 P w K mg base N__law_is_row "_law_is_row" (defScope s__law_is_row) f cdv A outer s H E).nox ((defBody s__law_is_row).drop 1) tl ∧ ∀ (H3 : Hp) (x1 x2 : Option V), Same H H3 → tl { nx := fun _ H' => Q .non H', rt := Q } [some (.ref a), x1, x2] H3 := by
      refine ⟨_, (pss_one (ps_ret (pe_and (pe_cmpR (r := rNeD K) (op_neD hr.units) (pv 0) (pe_lst pa_nil) (nomark _)) (pe_one (pe_callB (r := rAll K) (cr_all rfl) (by rfl) T.b_all (by decide +kernel) (pa_cons (pe_lc (own := [("_law_one", 1)]) (g := gName 1) (by rfl) nd (pi_list (pv 0)) (blkOk_by (own := [("_law_one", 1)]) (N := N__law_is_row) (sc := defScope s__law_is_row) (by decide +kernel)) (fun _ _ _ _ _ => (pg_name (i := 1) nd rfl (Or.inl rfl))) (fun _ _ _ _ _ => pts_nil) (fun _ _ _ _ _ => (pe_and (pe_callB (r := rIsi K) call_isi (by rfl) T.b_isinstance (by decide +kernel) (pa_cons (pv 1) (pa_cons (pe_bltn (v := .ty "int") (by rfl) T.b_int (by decide +kernel) rfl) pa_nil))) (pe_one (pe_not (pe_callB (r := rIsi K) call_isi (by rfl) T.b_isinstance (by decide +kernel) (pa_cons (pv 1) (pa_cons (pe_bltn (v := .ty "bool") (by rfl) T.b_bool (by decide +kernel) rfl) pa_nil)))))))) pa_nil)))))), ?_⟩
      intro H3 x1 x2 sm3
      have hd3 : Dp K H3 (.ref a) (.list ds) := dp_same sm3 (.lst hs ha)
      have hsh := hf.2
      have hsn : SeqAt.shaped (.list []) = true := by decide +kernel
      walk_at "ev"
      w_cond _4
      have hd4 := dp_same sm4 hd3
      have hn4 : Dp K H4 (.ref l4) (.list []) := .lst (SqL.of hq4) .nil
      have s04 := sm3.trans sm4
      have hs4 := s04.seq hs
      have hL' : ∃ xs, SqL K H4 a xs := ⟨_, hs4⟩
      walk_at "ev"
      cases hne : PyData.eqv (.list ds) (.list []) with
      | true =>
        refine iteFe rfl ?_
        walk_at "ev"
        exact q _ _ s04
      | false =>
      refine iteTe rfl ?_
      walk_at "ev"
      intro D hD
      refine lc_list (K := K) (a := a) (xs := xs) (fun i H' => Hold (Same H4 H' ∧ ∃ bs : List Bool, bs.length = i ∧ H' D = some (.lst (bs.map V.bl)))) (.mk ⟨same_new hD, [], rfl, upd_same⟩) ?_ ?_ ?_
      · intro i H5 hi hP
        obtain ⟨sm5, bs, hbl, hD5⟩ := hP.un
        exact sm5.seq hs4
      · intro i v H5 hv hP
        obtain ⟨sm5, bs, hbl, hD5⟩ := hP.un
        obtain ⟨d, hdi, hdv⟩ := dpall_get ha hv
        have hil : i < xs.length := (List.getElem?_eq_some_iff.mp hv).1
        have kd := kdD (dp_same (s04.trans sm5) hdv)
        have ty := kd.ty
        obtain ⟨k1, k2, k3, k4, k5⟩ := kd.kit
        have hsz : (bs.map V.bl).length < sizeLine := szm (by rw [List.length_map]; omega)
        walk_at "ev"
        refine ite2 (fun c => ?_) (fun c => ?_)
        · walk_at "ev"
          exact .mk ⟨same_mut sm5 hD, bs ++ [_], by rw [List.length_append, hbl]; rfl, by rw [upd_same, List.map_append]; rfl⟩
        · walk_at "ev"
          exact .mk ⟨same_mut sm5 hD, bs ++ [_], by rw [List.length_append, hbl]; rfl, by rw [upd_same, List.map_append]; rfl⟩
      · intro H5 hP
        obtain ⟨sm5, bs, hbl, hD5⟩ := hP.un
        refine ⟨D, _, rfl, SqL.of hD5, ?_⟩
        exact q _ _ (s04.trans sm5)
    refine ⟨_, (pss_cons (ps_if (PW.pt (pw_and (pt_val (pe_callB (r := rAll K) (cr_all rfl) (by rfl) T.b_all (by decide +kernel) (pa_cons (pe_lc (own := [("_law_one", 1)]) (g := gName 1) (by rfl) nd (pi_list (pv 0)) (blkOk_by (own := [("_law_one", 1)]) (N := N__law_is_row) (sc := defScope s__law_is_row) (by decide +kernel)) (fun _ _ _ _ _ => (pg_name (i := 1) nd rfl (Or.inl rfl))) (fun _ _ _ _ _ => pts_nil) (fun _ _ _ _ _ => (pe_callB (r := rIsi K) call_isi (by rfl) T.b_isinstance (by decide +kernel) (pa_cons (pv 1) (pa_cons (pe_bltn (v := .ty "tuple") (by rfl) T.b_tuple (by decide +kernel) rfl) pa_nil))))) pa_nil))) (pw_and1 (pt_cmpR op_eq (pe_lenSetN (by rfl) T.b_len (by rfl) T.b_set (pe_lc (own := [("_law_one", 1)]) (g := gName 1) (by rfl) nd (pi_list (pv 0)) (blkOk_by (own := [("_law_one", 1)]) (N := N__law_is_row) (sc := defScope s__law_is_row) (by decide +kernel)) (fun _ _ _ _ _ => (pg_name (i := 1) nd rfl (Or.inl rfl))) (fun _ _ _ _ _ => pts_nil) (fun _ _ _ _ _ => (pe_callB (r := rLenQ K) call_len_seq (by rfl) T.b_len (by decide +kernel) (pa_cons (pv 1) pa_nil))))) (pe_int) (nomark _))))) (pss_one (ps_ret (pe_callB (r := rAll K) (cr_all rfl) (by rfl) T.b_all (by decide +kernel) (pa_cons (pe_lc (own := [("_law_one", 1)]) (g := gName 1) (by rfl) nd (pi_list (pv 0)) (blkOk_by (own := [("_law_one", 1)]) (N := N__law_is_row) (sc := defScope s__law_is_row) (by decide +kernel)) (fun _ _ _ _ _ => (pg_name (i := 1) nd rfl (Or.inl rfl))) (fun _ _ _ _ _ => pts_nil) (fun _ _ _ _ _ => (pe_callB (r := rAll K) (cr_all rfl) (by rfl) T.b_all (by decide +kernel) (pa_cons (pe_lc (own := [("_law_part", 2)]) (g := gName 2) (by rfl) nd (pi_tupK (K := K) rfl (pv 1)) (blkOk_by (own := [("_law_part", 2)]) (by rfl)) (fun _ _ _ _ _ => (pg_name (i := 2) nd rfl (Or.inl rfl))) (fun _ _ _ _ _ => pts_nil) (fun _ _ _ _ _ => (pe_and (pe_callB (r := rIsi K) call_isi (by rfl) T.b_isinstance (by decide +kernel) (pa_cons (pv 2) (pa_cons (pe_bltn (v := .ty "int") (by rfl) T.b_int (by decide +kernel) rfl) pa_nil))) (pe_one (pe_not (pe_callB (r := rIsi K) call_isi (by rfl) T.b_isinstance (by decide +kernel) (pa_cons (pv 2) (pa_cons (pe_bltn (v := .ty "bool") (by rfl) T.b_bool (by decide +kernel) rfl) pa_nil)))))))) pa_nil)))) pa_nil)))) pss_nil)
      htl), ?_⟩
    have hL' : ∃ xs, SqL K H a xs := ⟨_, hs⟩
    walk_at "ev"
    intro D hD
    refine lc_list (K := K) (a := a) (xs := xs) (fun i H' => Hold (Same H H' ∧ H' D = some (.lst (((ds.take i).map isTp).map V.bl)))) (.mk ⟨same_new hD, upd_same⟩) ?_ ?_ ?_
    · intro i H1 hi hP
      obtain ⟨sm1, hD1⟩ := hP.un
      exact sm1.seq hs
    · intro i v H1 hv hP
      obtain ⟨sm1, hD1⟩ := hP.un
      obtain ⟨d, hdi, hdv⟩ := dpall_get ha hv
      have hil : i < xs.length := (List.getElem?_eq_some_iff.mp hv).1
      have hdx := dp_same sm1 hdv
      have kd := kdD hdx
      have ty := kd.ty
      obtain ⟨k1, k2, k3, k4, k5⟩ := kd.kit
      have hsz : (((ds.take i).map isTp).map V.bl).length < sizeLine := szm (by rw [List.length_map, List.length_map, List.length_take]; omega)
      cases hdx
      all_goals (walk_at "ev"; refine .mk ⟨same_mut sm1 hD, ?_⟩; rw [upd_same, List.take_add_one, hdi, List.map_append, List.map_append]; rfl)
    · intro H1 hP
      obtain ⟨sm1, hD1⟩ := hP.un
      rw [List.take_of_length_le (by omega)] at hD1
      refine ⟨D, _, rfl, SqL.of hD1, ?_⟩
      have hal : (ds.map isTp).all id = ds.all isTp := by rw [List.all_map]; rfl
      rw [hal]
      cases hb : ds.all isTp with
      | false =>
        walk_at "ev"
        exact fin _ _ _ sm1
      | true =>
        have htp := tps_of ha hb
        have hs1 := sm1.seq hs
        have hL1 : ∃ xs, SqL K H1 a xs := ⟨_, hs1⟩
        walk_at "ev"
        intro D2 hD2
        refine lc_list (K := K) (a := a) (xs := xs) (fun i H' => Hold (Same H1 H' ∧ ∃ ns : List Int, ns.length = i ∧ H' D2 = some (.lst (ns.map V.int)))) (.mk ⟨same_new hD2, [], rfl, upd_same⟩) ?_ ?_ ?_
        · intro i H2 hi hP
          obtain ⟨sm2, ns, hnl, hD3⟩ := hP.un
          exact sm2.seq hs1
        · intro i v H2 hv hP
          obtain ⟨sm2, ns, hnl, hD3⟩ := hP.un
          have hil : i < xs.length := (List.getElem?_eq_some_iff.mp hv).1
          obtain ⟨a', ys, rfl, hT, _⟩ := htp v (List.mem_of_getElem? hv)
          have hT2 : SqL K H2 a' ys ∨ SqT K H2 a' ys := .inr (same_t (sm1.trans sm2) hT)
          have hsz : (ns.map V.int).length < sizeLine := szm (by rw [List.length_map]; omega)
          walk_at "ev"
          exact .mk ⟨same_mut sm2 hD2, ns ++ [_], by rw [List.length_append, hnl]; rfl, by rw [upd_same, List.map_append]; rfl⟩
        · intro H2 hP
          obtain ⟨sm2, ns, hnl, hD3⟩ := hP.un
          refine ⟨D2, ns, rfl, SqL.of hD3, by omega, fun kk => ?_⟩
          have s12 := sm1.trans sm2
          walk_at "ev"
          refine ite2 (fun c => ?_) (fun c => ?_)
          · have hs2 := s12.seq hs
            have hL2 : ∃ xs, SqL K H2 a xs := ⟨_, hs2⟩
            walk_at "ev"
            intro D3 hD3'
            refine lc_list (K := K) (a := a) (xs := xs) (fun i H' => Hold (Same H2 H' ∧ ∃ bs : List Bool, bs.length = i ∧ H' D3 = some (.lst (bs.map V.bl)))) (.mk ⟨same_new hD3', [], rfl, upd_same⟩) ?_ ?_ ?_
            · intro i H3 hi hP
              obtain ⟨sm3, bs, hbl, hD4⟩ := hP.un
              exact sm3.seq hs2
            · intro i v H3 hv hP
              obtain ⟨sm3, bs, hbl, hD4⟩ := hP.un
              have hil : i < xs.length := (List.getElem?_eq_some_iff.mp hv).1
              obtain ⟨a', ys, rfl, hT, es, he, hm⟩ := htp v (List.mem_of_getElem? hv)
              have s13 := s12.trans sm3
              have hT3 := same_t s13 hT
              have hes : es.length ≤ 4000 := (hfs _ hm).1.1
              have hyl := dpall_len he
              have hL3 : ∃ xs, SqT K H3 a' xs := ⟨_, hT3⟩
              walk_at "ev"
              intro D4 hD4'
              refine lc_tup (K := K) (a := a') (xs := ys) (fun i H' => Hold (Same H3 H' ∧ ∃ bs : List Bool, bs.length = i ∧ H' D4 = some (.lst (bs.map V.bl)))) (.mk ⟨same_new hD4', [], rfl, upd_same⟩) ?_ ?_ ?_
              · intro j H4 hj hP
                obtain ⟨sm4, bs', hbl', hD5⟩ := hP.un
                exact same_t sm4 hT3
              · intro j v H4 hv hP
                obtain ⟨sm4, bs', hbl', hD5⟩ := hP.un
                obtain ⟨d, hdi, hdv⟩ := dpall_get he hv
                have hjl : j < ys.length := (List.getElem?_eq_some_iff.mp hv).1
                have kd := kdD (dp_same (s13.trans sm4) hdv)
                have ty := kd.ty
                obtain ⟨k1, k2, k3, k4, k5⟩ := kd.kit
                have hsz : (bs'.map V.bl).length < sizeLine := szm (by rw [List.length_map]; omega)
                walk_at "ev"
                refine ite2 (fun c => ?_) (fun c => ?_)
                · walk_at "ev"
                  exact .mk ⟨same_mut sm4 hD4', bs' ++ [_], by rw [List.length_append, hbl']; rfl, by rw [upd_same, List.map_append]; rfl⟩
                · walk_at "ev"
                  exact .mk ⟨same_mut sm4 hD4', bs' ++ [_], by rw [List.length_append, hbl']; rfl, by rw [upd_same, List.map_append]; rfl⟩
              · intro H4 hP
                obtain ⟨sm4, bs', hbl', hD5⟩ := hP.un
                refine ⟨D4, _, rfl, SqL.of hD5, ?_⟩
                have hD6 := sm4 _ _ hD4
                have hsz : (bs.map V.bl).length < sizeLine := szm (by rw [List.length_map]; omega)
                walk_at "ev"
                exact .mk ⟨same_mut (sm3.trans sm4) hD3', bs ++ [_], by rw [List.length_append, hbl]; rfl, by rw [upd_same, List.map_append]; rfl⟩
            · intro H3 hP
              obtain ⟨sm3, bs, hbl, hD4⟩ := hP.un
              refine ⟨D3, _, rfl, SqL.of hD4, ?_⟩
              exact q _ _ (s12.trans sm3)
          · walk_at "ev"
            exact fin _ _ _ s12
end
local macro_rules | `(tactic| walk_at "ev1") => `(tactic| ((first | with_reducible show ClsV _ _ | with_reducible show Paired ClsV _ _); first | exact ClsV.own _ | exact ClsV.ty _ | exact .cons (.own _) (.cons (.own _) .nil) | exact .cons (.own _) (.cons (.own _) (.cons (.own _) .nil))))
section
variable {X : Cx} {T : String} {name : Str} {id : String} {r : V → List V → Hp → VK → Prop} {o e : Expr} {es : List Expr} {to : TE} {t : TA} {apos cpos : Pos}
theorem pe_bmK {K : PySem.W.Frag} (hK : X.K = K) (pa : PlainAttrs T) (slot : Slot T name id) (hty : typeOf (.builtin id) = pure (.type "method_descriptor")) (hm : MtR X id r) (ho : PE X o to) (ha : PA X (e :: es) t)
    (hbase : attributeBase o name X.env (eval o X.env) = eval o X.env := by rfl)
    (hfew : ((backTo cpos (starEach (e :: es) X.env)).all (fun x => !x.1) && (backToKw cpos (keywordEach [] X.env)).all (fun x => x.1.isSome)
      && decide ((e :: es).length + ([] : List Keyword).length + (if ([] : List Keyword).isEmpty then 0 else 1) < 30)) = true := by rfl)
    (hline : (apos.endLine == cpos.line) = true := by rfl) (hs : starEach (e :: es) X.env = (false, eval e X.env) :: starEach es X.env := by rfl) (hplain : (backTo cpos (starEach es X.env)).any (·.1) = false := by rfl) :
    PE X (.Call (.Attribute o name apos) (e :: es) [] cpos) (tBM K T r to t) := by
  subst hK
  exact pe_bm pa slot hty hm ho ha hbase hfew hline hs hplain
end
structure S70 (K : PySem.W.Frag) (mg : Str → Option Value) (CT C fI : Addr) (fdI : FuncData) : Prop where
  x : XI K fI fdI
  R : Ref K CT C fI
  m0 : mg "TurnError" = some (.ref CT)
  m1 : mg "NotEven" = some (.ref C)
  ke : PySem.W.kitOne K (.ref C) (.ref C) = some true
  b1 : ∃ c, mg "BadGround" = some (.ref c) ∧ PySem.W.kitOne K (.ref C) (.ref c) = some false
  b2 : ∃ c, mg "BadLength" = some (.ref c) ∧ PySem.W.kitOne K (.ref C) (.ref c) = some false
  b3 : ∃ c, mg "NoRoot" = some (.ref c) ∧ PySem.W.kitOne K (.ref C) (.ref c) = some false
  b4 : ∃ c, mg "NotCoprime" = some (.ref c) ∧ PySem.W.kitOne K (.ref C) (.ref c) = some false
  b5 : ∃ c, mg "TooSmall" = some (.ref c) ∧ PySem.W.kitOne K (.ref C) (.ref c) = some false
  b6 : ∃ c, mg "NoShare" = some (.ref c) ∧ PySem.W.kitOne K (.ref C) (.ref c) = some false
  b7 : ∃ c, mg "BadText" = some (.ref c) ∧ PySem.W.kitOne K (.ref C) (.ref c) = some false
  b8 : ∃ c, mg "NoInverse" = some (.ref c) ∧ PySem.W.kitOne K (.ref C) (.ref c) = some false
def nmW : List Str := ["BadGround", "BadLength", "NoRoot", "NotCoprime", "TooSmall", "NotEven", "NoShare", "BadText", "NoInverse"]
theorem nmW_split : Txt.split "BadGround BadLength NoRoot NotCoprime TooSmall NotEven NoShare BadText NoInverse" " " = nmW := by decide +kernel
abbrev s__law_named_error : Stmt := top 30
abbrev N__law_named_error : List Str := ["_law_error", "_law_kinds", "_law_words"]
abbrev P__law_named_error : List Str := ["_law_error"]
theorem sc__law_named_error : FnScope N__law_named_error P__law_named_error (defScope s__law_named_error) := ⟨rfl, rfl, rfl, by decide +kernel, rfl, by decide +kernel, by decide +kernel⟩
def spNam (K : PySem.W.Frag) (C : Addr) : Sp := fun vs H Q _ => ∃ (z : Addr) (v : V), vs = [.ref z] ∧ XAt H z C [(("what" : Str), v)] ∧ ∀ p H', H p = none → Same H H' → H' p = some (.lst [.str "NotEven", v]) → Q (.ref p) H'
section
variable {P : Program} {w : World} {K : PySem.W.Frag} {mg : Str → Option Value} {base : Heap}
theorem ok_nam {f fI C CT : Addr} {fd fdI : FuncData} {k : Nat} (F : Fun K "_law_named_error" "_law_named_error" s__law_named_error f fd) (T : Blt mg) (S : S70 K mg CT C fI fdI) : FnOk P w K mg base CX0 (k + 1) f fd P__law_named_error (spNam K C) := by
  obtain ⟨c1, M_BadGround, k1⟩ := S.b1
  obtain ⟨c2, M_BadLength, k2⟩ := S.b2
  obtain ⟨c3, M_NoRoot, k3⟩ := S.b3
  obtain ⟨c4, M_NotCoprime, k4⟩ := S.b4
  obtain ⟨c5, M_TooSmall, k5⟩ := S.b5
  obtain ⟨c6, M_NoShare, k6⟩ := S.b6
  obtain ⟨c7, M_BadText, k7⟩ := S.b7
  obtain ⟨c8, M_NoInverse, k8⟩ := S.b8
  have M_NotEven := S.m1
  have ke := S.ke
  have ek := S.R.ek
  have kv := S.R.kv
  have nw := S.R.ek.nw
  have nd := sc__law_named_error.nd
  refine F.ok sc__law_named_error (fun vs H Q E h => ?_) (fun cdv A outer s H vs Q E hr h => ?_)
  · obtain ⟨z, v, rfl, _⟩ := h
    rfl
  · obtain ⟨z, v, rfl, hx, q⟩ := h
    refine ⟨_, (pss_cons (ps_set (i := 1) nd rfl (Or.inl rfl) (pe_lst (pa_cons (pe_callB (r := rIsX K) call_isX (by rfl) T.b_isinstance (by decide +kernel) (pa_cons (pv 0) (pa_cons (pe_glob (v := .ref _) (by rfl) M_BadGround rfl) pa_nil))) (pa_cons (pe_callB (r := rIsX K) call_isX (by rfl) T.b_isinstance (by decide +kernel) (pa_cons (pv 0) (pa_cons (pe_glob (v := .ref _) (by rfl) M_BadLength rfl) pa_nil))) (pa_cons (pe_callB (r := rIsX K) call_isX (by rfl) T.b_isinstance (by decide +kernel) (pa_cons (pv 0) (pa_cons (pe_glob (v := .ref _) (by rfl) M_NoRoot rfl) pa_nil))) pa_nil)))))
      (pss_cons (ps_set (i := 1) nd rfl (Or.inl rfl) (pe_op op_cat (pv 1) (pe_lst (pa_cons (pe_callB (r := rIsX K) call_isX (by rfl) T.b_isinstance (by decide +kernel) (pa_cons (pv 0) (pa_cons (pe_glob (v := .ref _) (by rfl) M_NotCoprime rfl) pa_nil))) (pa_cons (pe_callB (r := rIsX K) call_isX (by rfl) T.b_isinstance (by decide +kernel) (pa_cons (pv 0) (pa_cons (pe_glob (v := .ref _) (by rfl) M_TooSmall rfl) pa_nil))) (pa_cons (pe_callB (r := rIsX K) call_isX (by rfl) T.b_isinstance (by decide +kernel) (pa_cons (pv 0) (pa_cons (pe_glob (v := .ref _) (by rfl) M_NotEven rfl) pa_nil))) pa_nil))))))
      (pss_cons (ps_set (i := 1) nd rfl (Or.inl rfl) (pe_op op_cat (pv 1) (pe_lst (pa_cons (pe_callB (r := rIsX K) call_isX (by rfl) T.b_isinstance (by decide +kernel) (pa_cons (pv 0) (pa_cons (pe_glob (v := .ref _) (by rfl) M_NoShare rfl) pa_nil))) (pa_cons (pe_callB (r := rIsX K) call_isX (by rfl) T.b_isinstance (by decide +kernel) (pa_cons (pv 0) (pa_cons (pe_glob (v := .ref _) (by rfl) M_BadText rfl) pa_nil))) (pa_cons (pe_callB (r := rIsX K) call_isX (by rfl) T.b_isinstance (by decide +kernel) (pa_cons (pv 0) (pa_cons (pe_glob (v := .ref _) (by rfl) M_NoInverse rfl) pa_nil))) pa_nil))))))
      (pss_cons (ps_set (i := 2) nd rfl (Or.inl rfl) (pe_split (pe_str) (pe_str)))
      (pss_cons (ps_if (PW.pt (pw_or (pt_cmpR op_ne (pe_bmK (K := K) (r := rCntD K) rfl PySem.F.plainAttrs_list PySem.F.slot_list_count PySem.F.type_list_count (mt_countD (du65 hr)) (pv 1) (pa_cons (pe_bl) pa_nil)) (pe_int) (nomark _)) (pw_or1 (pt_not (pt_val (pe_callB (r := rIsX K) call_isX (by rfl) T.b_isinstance (by decide +kernel) (pa_cons (pv 0) (pa_cons (pe_bltn (v := .ty "ValueError") (by rfl) T.b_ValueError (by decide +kernel) rfl) pa_nil)))))))) (pss_one (ps_ret (pe_lst (pa_cons (pe_str) (pa_cons (pe_non) pa_nil))))) pss_nil)
      (pss_one (ps_ret (pe_lst (pa_cons (pe_ix (r := rIxL K) ix_list (pv 2) (pe_bmK (K := K) (r := rIndexD K) rfl PySem.F.plainAttrs_list PySem.F.slot_list_index PySem.F.type_list_index (mt_indexD (du65 hr)) (pv 1) (pa_cons (pe_bl) pa_nil)) (fun _ _ => rfl)) (pa_cons (pe_xw (pv 0)) pa_nil)))))))))), ?_⟩
    walk_at "ev"
    w_cond _1
    have hx1 := hx.same sm1
    walk_at "ev"
    w_cond _2
    have h12 := sm2 _ _ hq1
    walk_at "ev"
    w_cond _3
    have hx3 := hx1.same (sm2.trans sm3)
    walk_at "ev"
    w_cond _4
    have h34 := sm4 _ _ hq3
    walk_at "ev"
    w_cond _5
    have s05 := sm1.trans (sm2.trans (sm3.trans (sm4.trans sm5)))
    have b2 : ∃ a : Str, V.str "BadGround BadLength NoRoot NotCoprime TooSmall NotEven NoShare BadText NoInverse" = V.str a := ⟨_, rfl⟩
    have b0 : (Str.length " " == 0) = false := by decide
    have b1 : Str.length "BadGround BadLength NoRoot NotCoprime TooSmall NotEven NoShare BadText NoInverse" + 2 ≤ sizeLine := by decide +kernel
    walk_at "ev"
    w_cond _6
    rw [nmW_split] at hq6
    have hx6 := hx.same (s05.trans sm6)
    have h56 := sm6 _ _ hq5
    have hdL : Dp K H6 (.ref l5) (.list [.bool false, .bool false, .bool false, .bool false, .bool false, .bool true, .bool false, .bool false, .bool false]) := .lst (SqL.of h56) (.cons (.bl _) (.cons (.bl _) (.cons (.bl _) (.cons (.bl _) (.cons (.bl _) (.cons (.bl _) (.cons (.bl _) (.cons (.bl _) (.cons (.bl _) .nil)))))))))
    have hdT : Dp K H6 (.bl true) (.bool true) := .bl true
    have hs1 : SeqAt.shaped (.list [.bool false, .bool false, .bool false, .bool false, .bool false, .bool true, .bool false, .bool false, .bool false]) = true := by decide +kernel
    have hs2 : SeqAt.shaped (.bool true) = true := by decide +kernel
    have tyL : tyV K "list" (.ref l5) H6 := .inl ⟨rfl, _, SqL.of h56⟩
    have hi5 : ([.bool false, .bool false, .bool false, .bool false, .bool false, .bool true, .bool false, .bool false, .bool false] : List PyData)[5]? = some (.bool true) := rfl
    have hi6 : PyData.eqv (.bool true) (.bool true) = true := rfl
    have hi7 : ∀ (m : Nat) (z' : PyData), m < 5 → ([.bool false, .bool false, .bool false, .bool false, .bool false, .bool true, .bool false, .bool false, .bool false] : List PyData)[m]? = some z' → PyData.eqv z' (.bool true) = false := by
      intro m z' hm e
      have : m = 0 ∨ m = 1 ∨ m = 2 ∨ m = 3 ∨ m = 4 := by omega
      rcases this with y | y | y | y | y <;> subst y <;> cases e <;> rfl
    have hLw := SqL.of (K := K) hq6
    walk_at "ev"
    w_cond _7
    exact q l7 H7 ((s05.trans sm6).free hl7) (s05.trans (sm6.trans sm7)) hq7
end
abbrev s__law_told : Stmt := top 35
abbrev N__law_told : List Str := ["_law_row_here", "_law_found", "_law_caught", "_law_error"]
abbrev P__law_told : List Str := ["_law_row_here"]
theorem sc__law_told : FnScope N__law_told P__law_told (defScope s__law_told) := ⟨rfl, rfl, rfl, by decide +kernel, rfl, by decide +kernel, by decide +kernel⟩
def spTold (K : PySem.W.Frag) (n : Nat) : Sp := fun vs H Q _ => ∃ (a : Addr) (xs : List V) (ds : List PyData), vs = [.ref a] ∧ SqL K H a xs ∧ DpAll K H xs ds ∧ ds.length ≤ 4000 ∧ (∀ e ∈ ds, Fs n e) ∧ ∀ p ys H', WayL xs ds ys → H p = none → Same H H' → H' p = some (.lst ys) → Q (.ref p) H'
section
variable {P : Program} {w : World} {K : PySem.W.Frag} {mg : Str → Option Value} {base : Heap}
theorem ok_told {f f1 f2 f3 f4 fI C CT : Addr} {fd d1 d2 d3 d4 fdI : FuncData} {n : Nat} (F : Fun K "_law_told" "_law_told" s__law_told f fd) (T : Blt mg) (S : S70 K mg CT C fI fdI) (D_first_unlike : Df K mg "first_unlike" s_first_unlike P_first_unlike f1 d1) (D_are_alike : Df K mg "are_alike" s_are_alike P_are_alike f2 d2) (D_half_of : Df K mg "half_of" s_half_of P_half_of f3 d3) (D__law_named_error : Df K mg "_law_named_error" s__law_named_error P__law_named_error f4 d4) : FnOk P w K mg base CX0 (n + 4) f fd P__law_told (spTold K n) := by
  have G_half_of : FnOk P w K mg base (L2.CX P w) (n + 3) f3 d3 P_half_of (spHalf K C n) := ok_half D_half_of.F T D_first_unlike D_are_alike S.x S.R S.m1
  have G__law_named_error : FnOk P w K mg base CX0 1 f4 d4 P__law_named_error (spNam K C) := ok_nam D__law_named_error.F T S
  have M_TurnError := S.m0
  have nd := sc__law_told.nd
  refine F.ok sc__law_told (fun vs H Q E h => ?_) (fun cdv A outer s H vs Q E hr h => ?_)
  · obtain ⟨a, xs, ds, rfl, _⟩ := h
    rfl
  · obtain ⟨a, xs, ds, rfl, hs, ha, hl, hfs, q⟩ := h
    refine ⟨_, (pss_cons (ps_asg (pe_tup (pa_cons (pe_non) (pa_cons (pe_non) pa_nil))) (pg_tup (by rfl) (pgs_cons (pg_name (i := 1) nd rfl (Or.inl rfl)) (pgs_cons (pg_name (i := 2) nd rfl (Or.inl rfl)) pgs_nil))))
      (pss_cons (ps_try_keep (i := 3) (Wout := fun _ _ _ _ => False) rfl rfl rfl nd rfl rfl ⟨by rfl, by decide, Or.inl M_TurnError⟩ takes0 (fun W pn xe tk _ => (pss_one (ps_set (i := 1) nd rfl (Or.inl rfl) (pe_callS G_half_of (hr.mono (by omega)) (by rfl) D_half_of.g D_half_of.F.kp D_half_of.b (fun σ => passAt tk σ) (pa_cons (pv 0) pa_nil))))) (fun a pn => (pss_one (ps_set (i := 2) nd rfl (Or.inl rfl) (pv 3)))))
      (pss_one (ps_ret (pe_ifExp (pt_cmpR op_isN (pv 2) (pe_non) (nomark _)) (pv 1) (pe_call G__law_named_error (hr.mono (by omega)) (by rfl) D__law_named_error.g D__law_named_error.F.kp D__law_named_error.b .nil pass0 (pa_cons (pv 2) pa_nil))))))), ?_⟩
    walk_at "ev"
    w_cond _1
    have hT1 := SqT.of (K := K) hq1
    have hs1 := sm1.seq hs
    have ha1 := dpall_same sm1 ha
    have cat : ∀ (d : Addr) (v : V) (H2 : Hp), Wh H1 H2 d v → WayL xs ds [.str "NotEven", v] → ∀ (z : Addr), H2 z = none → ∃ hx3 : XAt (upd H2 z (XOb C d z)) z C [(("what" : Str), v)], ∀ p H', (upd H2 z (XOb C d z)) p = none → Same (upd H2 z (XOb C d z)) H' → H' p = some (.lst [.str "NotEven", v]) → Q (.ref p) H' := by
      intro d v H2 hw hway z hz
      obtain ⟨w1, w2, w3⟩ := hw
      have sm3 : Same H2 (upd H2 z (XOb C d z)) := same_new hz
      exact ⟨⟨d, upd_same, sm3 _ _ w3⟩, fun p H' hp sm hq => q p _ H' hway ((sm1.trans (w2.trans sm3)).free hp) (sm1.trans (w2.trans (sm3.trans sm))) hq⟩
    walk_at "ev"
    refine ⟨fun e1 e2 p H2 hp sm2 hq2 => ?_, fun e1 d H2 hw => ?_, fun e1 r e2 e3 d H2 hw => ?_⟩
    · walk_at "ev"
      exact q p _ H2 (.inl ⟨e1, e2, rfl⟩) (sm1.free hp) (sm1.trans sm2) hq2
    · refine ⟨true, S.R.em, fun _ => ⟨C, d, rfl, rfl, fun z hz => ?_⟩, fun z => nomatch z⟩
      obtain ⟨hx3, q3⟩ := cat d _ H2 hw (.inr (.inl ⟨e1, rfl⟩)) z hz
      walk_at "ev"
      exact q3
    · refine ⟨true, S.R.em, fun _ => ⟨C, d, rfl, rfl, fun z hz => ?_⟩, fun z => nomatch z⟩
      obtain ⟨hx3, q3⟩ := cat d _ H2 hw (.inr (.inr ⟨e1, r, e2, e3, rfl⟩)) z hz
      walk_at "ev"
      exact q3
end
def spToldT (K : PySem.W.Frag) (n : Nat) : Sp := fun vs H Q _ => ∃ (a : Addr) (xs : List V) (ds : List PyData), vs = [.ref a] ∧ SqT K H a xs ∧ DpAll K H xs ds ∧ ds.length ≤ 4000 ∧ (∀ e ∈ ds, Fs n e) ∧ ∀ p ys H', WayL xs ds ys → H p = none → Same H H' → H' p = some (.lst ys) → Q (.ref p) H'
section
variable {P : Program} {w : World} {K : PySem.W.Frag} {mg : Str → Option Value} {base : Heap}
theorem ok_toldT {f f1 f2 f3 f4 fI C CT : Addr} {fd d1 d2 d3 d4 fdI : FuncData} {n : Nat} (F : Fun K "_law_told" "_law_told" s__law_told f fd) (T : Blt mg) (S : S70 K mg CT C fI fdI) (D_first_unlike : Df K mg "first_unlike" s_first_unlike P_first_unlike f1 d1) (D_are_alike : Df K mg "are_alike" s_are_alike P_are_alike f2 d2) (D_half_of : Df K mg "half_of" s_half_of P_half_of f3 d3) (D__law_named_error : Df K mg "_law_named_error" s__law_named_error P__law_named_error f4 d4) : FnOk P w K mg base CX0 (n + 4) f fd P__law_told (spToldT K n) := by
  have G_half_of : FnOk P w K mg base (L2.CX P w) (n + 3) f3 d3 P_half_of (spHalfT K C n) := ok_halfT D_half_of.F T D_first_unlike D_are_alike S.x S.R S.m1
  have G__law_named_error : FnOk P w K mg base CX0 1 f4 d4 P__law_named_error (spNam K C) := ok_nam D__law_named_error.F T S
  have M_TurnError := S.m0
  have nd := sc__law_told.nd
  refine F.ok sc__law_told (fun vs H Q E h => ?_) (fun cdv A outer s H vs Q E hr h => ?_)
  · obtain ⟨a, xs, ds, rfl, _⟩ := h
    rfl
  · obtain ⟨a, xs, ds, rfl, hs, ha, hl, hfs, q⟩ := h
    refine ⟨_, (pss_cons (ps_asg (pe_tup (pa_cons (pe_non) (pa_cons (pe_non) pa_nil))) (pg_tup (by rfl) (pgs_cons (pg_name (i := 1) nd rfl (Or.inl rfl)) (pgs_cons (pg_name (i := 2) nd rfl (Or.inl rfl)) pgs_nil))))
      (pss_cons (ps_try_keep (i := 3) (Wout := fun _ _ _ _ => False) rfl rfl rfl nd rfl rfl ⟨by rfl, by decide, Or.inl M_TurnError⟩ takes0 (fun W pn xe tk _ => (pss_one (ps_set (i := 1) nd rfl (Or.inl rfl) (pe_callS G_half_of (hr.mono (by omega)) (by rfl) D_half_of.g D_half_of.F.kp D_half_of.b (fun σ => passAt tk σ) (pa_cons (pv 0) pa_nil))))) (fun a pn => (pss_one (ps_set (i := 2) nd rfl (Or.inl rfl) (pv 3)))))
      (pss_one (ps_ret (pe_ifExp (pt_cmpR op_isN (pv 2) (pe_non) (nomark _)) (pv 1) (pe_call G__law_named_error (hr.mono (by omega)) (by rfl) D__law_named_error.g D__law_named_error.F.kp D__law_named_error.b .nil pass0 (pa_cons (pv 2) pa_nil))))))), ?_⟩
    walk_at "ev"
    w_cond _1
    have hT1 := SqT.of (K := K) hq1
    have hs1 := same_t sm1 hs
    have ha1 := dpall_same sm1 ha
    have cat : ∀ (d : Addr) (v : V) (H2 : Hp), Wh H1 H2 d v → WayL xs ds [.str "NotEven", v] → ∀ (z : Addr), H2 z = none → ∃ hx3 : XAt (upd H2 z (XOb C d z)) z C [(("what" : Str), v)], ∀ p H', (upd H2 z (XOb C d z)) p = none → Same (upd H2 z (XOb C d z)) H' → H' p = some (.lst [.str "NotEven", v]) → Q (.ref p) H' := by
      intro d v H2 hw hway z hz
      obtain ⟨w1, w2, w3⟩ := hw
      have sm3 : Same H2 (upd H2 z (XOb C d z)) := same_new hz
      exact ⟨⟨d, upd_same, sm3 _ _ w3⟩, fun p H' hp sm hq => q p _ H' hway ((sm1.trans (w2.trans sm3)).free hp) (sm1.trans (w2.trans (sm3.trans sm))) hq⟩
    walk_at "ev"
    refine ⟨fun e1 e2 p H2 hp sm2 hq2 => ?_, fun e1 d H2 hw => ?_, fun e1 r e2 e3 d H2 hw => ?_⟩
    · walk_at "ev"
      exact q p _ H2 (.inl ⟨e1, e2, rfl⟩) (sm1.free hp) (sm1.trans sm2) hq2
    · refine ⟨true, S.R.em, fun _ => ⟨C, d, rfl, rfl, fun z hz => ?_⟩, fun z => nomatch z⟩
      obtain ⟨hx3, q3⟩ := cat d _ H2 hw (.inr (.inl ⟨e1, rfl⟩)) z hz
      walk_at "ev"
      exact q3
    · refine ⟨true, S.R.em, fun _ => ⟨C, d, rfl, rfl, fun z hz => ?_⟩, fun z => nomatch z⟩
      obtain ⟨hx3, q3⟩ := cat d _ H2 hw (.inr (.inr ⟨e1, r, e2, e3, rfl⟩)) z hz
      walk_at "ev"
      exact q3
end
abbrev s__law_is_plain_prime : Stmt := top 23
abbrev N__law_is_plain_prime : List Str := ["_law_number", "_law_small", "_law_part"]
abbrev P__law_is_plain_prime : List Str := ["_law_number"]
theorem sc__law_is_plain_prime : FnScope N__law_is_plain_prime P__law_is_plain_prime (defScope s__law_is_plain_prime) := ⟨rfl, rfl, rfl, by decide +kernel, rfl, by decide +kernel, by decide +kernel⟩
def spPlainPrime : Sp := fun vs H Q _ => ∃ (n : Int), vs = [.int n] ∧ 0 ≤ n ∧ n ≤ 10000 ∧ ∀ (b : Bool) H', Same H H' → Q (.bl b) H'
section
variable {P : Program} {w : World} {K : PySem.W.Frag} {mg : Str → Option Value} {base : Heap}
theorem ok_plainprime {f : Addr} {fd : FuncData} {k : Nat} (F : Fun K "_law_is_plain_prime" "_law_is_plain_prime" s__law_is_plain_prime f fd) (T : Blt mg) : FnOk P w K mg base CX0 (k + 1) f fd P__law_is_plain_prime spPlainPrime := by
  have nd := sc__law_is_plain_prime.nd
  refine F.ok sc__law_is_plain_prime (fun vs H Q E h => ?_) (fun cdv A outer s H vs Q E hr h => ?_)
  · obtain ⟨n, rfl, _⟩ := h
    rfl
  · obtain ⟨n, rfl, h0, h1, q⟩ := h
    refine ⟨_, (pss_cons (ps_setLc (i := 1) (own := [("_law_part", 2)]) (g := gName 2) (by rfl) nd rfl rfl (sw_true rfl rfl rfl (by decide +kernel)) (pi_range2 (by rfl) T.b_range (pa_cons (pe_int) (pa_cons (pv 0) pa_nil))) (blkOk_by (own := [("_law_part", 2)]) (N := N__law_is_plain_prime) (sc := defScope s__law_is_plain_prime) (by decide +kernel)) (fun _ _ _ _ _ => (pg_name (i := 2) nd rfl (Or.inl rfl))) (fun _ _ _ _ _ => pts_one (pt_cmpR op_le (pe_op op_mul (pv 2) (pv 2)) (pv 0) (nomark _))) (fun _ _ _ _ _ => (pv 2)))
      (pss_one (ps_ret (pe_and (pe_cmpR op_gt (pv 0) (pe_int) (nomark _)) (pe_one (pe_callB (r := rAll K) (cr_all rfl) (by rfl) T.b_all (by decide +kernel) (pa_cons (pe_lc (own := [("_law_part", 2)]) (g := gName 2) (by rfl) nd (pi_list (pv 1)) (blkOk_by (own := [("_law_part", 2)]) (N := N__law_is_plain_prime) (sc := defScope s__law_is_plain_prime) (by decide +kernel)) (fun _ _ _ _ _ => (pg_name (i := 2) nd rfl (Or.inl rfl))) (fun _ _ _ _ _ => pts_nil) (fun _ _ _ _ _ => (pe_cmpR op_gt (pe_op op_mod (pv 0) (pv 2)) (pe_int) (nomark _)))) pa_nil))))))), ?_⟩
    walk_at "ev"
    intro D hD
    refine lc_range (lo := 2) (n := _) (fun i H' => Hold (∃ ms : List Int, Same H H' ∧ H' D = some (.lst (ms.map V.int)) ∧ ms.length ≤ i ∧ ∀ m ∈ ms, 2 ≤ m)) (.mk ⟨[], same_new hD, upd_same, Nat.zero_le _, by simp⟩) ?_ ?_
    · intro i H2 hi hP
      obtain ⟨ms, sm2, hD2, hl, hm⟩ := hP.un
      have hcm : CMul (2 + (i : Int)) (2 + i) := .inl ⟨by omega, by omega⟩
      have hfl : (ms.map V.int).length < sizeLine := by
        rw [List.length_map]
        exact szm (by omega)
      walk_at "ev"
      refine ite2 (fun e => ?_) (fun e => ?_)
      · walk_at "ev"
        refine .mk ⟨ms ++ [2 + (i : Int)], same_mut sm2 hD, ?_, ?_, ?_⟩
        · rw [upd_same, List.map_append]
          rfl
        · simp
          omega
        · intro m hmm
          rcases List.mem_append.mp hmm with h | h
          · exact hm m h
          · have e : m = 2 + (i : Int) := by simpa using h
            omega
      · exact .mk ⟨ms, sm2, hD2, by omega, hm⟩
    · intro H2 hP
      obtain ⟨ms, sm2, hD2, hl, hm⟩ := hP.un
      have hL : SqL K H2 D (ms.map V.int) := SqL.of hD2
      have hL' : ∃ xs, SqL K H2 D xs := ⟨_, hL⟩
      walk_at "ev"
      refine ite2 (fun e => ?_) (fun e => ?_)
      · walk_at "ev"
        intro D3 hD3
        refine lc_list (K := K) (a := D) (xs := ms.map V.int) (fun i H' => Hold (∃ bs : List Bool, Same H2 H' ∧ H' D3 = some (.lst (bs.map V.bl)) ∧ bs.length = i)) (.mk ⟨[], same_new hD3, upd_same, rfl⟩) ?_ ?_ ?_
        · intro i H3 hi hP3
          obtain ⟨bs, sm3, hD4, hl4⟩ := hP3.un
          exact sm3.seq hL
        · intro i x H3 hx hP3
          obtain ⟨bs, sm3, hD4, hl4⟩ := hP3.un
          obtain ⟨m, hmm, rfl⟩ := int_mem (List.mem_of_getElem? hx)
          have := hm m hmm
          have hil : i < (ms.map V.int).length := (List.getElem?_eq_some_iff.mp hx).1
          rw [List.length_map] at hil
          walk_at "ev"
          refine .mk ⟨bs ++ [decide (0 < n % m)], same_mut sm3 hD3, ?_, ?_⟩
          · rw [upd_same, List.map_append]
            rfl
          · simp [hl4]
        · intro H3 hP3
          obtain ⟨bs, sm3, hD4, hl4⟩ := hP3.un
          exact ⟨D3, bs, rfl, SqL.of hD4, q _ _ (sm2.trans sm3)⟩
      · exact q _ _ sm2
end
abbrev s__law_raised : Stmt := top 32
abbrev N__law_raised : List Str := ["_law_base", "_law_exponent", "_law_by", "_law_found", "_law_turn"]
abbrev P__law_raised : List Str := ["_law_base", "_law_exponent", "_law_by"]
theorem sc__law_raised : FnScope N__law_raised P__law_raised (defScope s__law_raised) := ⟨rfl, rfl, rfl, by decide +kernel, rfl, by decide +kernel, by decide +kernel⟩
def spRaise : Sp := fun vs H Q _ => ∃ (b e p : Int), vs = [.int b, .int e, .int p] ∧ 0 ≤ b ∧ b < 10000 ∧ 0 ≤ e ∧ e < 10000 ∧ 2 ≤ p ∧ p ≤ 10000 ∧ ∀ (r : Int), 0 ≤ r → r < p → Q (.int r) H
section
variable {P : Program} {w : World} {K : PySem.W.Frag} {mg : Str → Option Value} {base : Heap}
theorem ok_raise {f : Addr} {fd : FuncData} {k : Nat} (F : Fun K "_law_raised" "_law_raised" s__law_raised f fd) (T : Blt mg) : FnOk P w K mg base CX0 (k + 1) f fd P__law_raised spRaise := by
  have nd := sc__law_raised.nd
  refine F.ok sc__law_raised (fun vs H Q E h => ?_) (fun cdv A outer s H vs Q E hr h => ?_)
  · obtain ⟨b, e, p, rfl, _⟩ := h
    rfl
  · obtain ⟨b, e, p, rfl, b0, b1, e0, e1, p0, p1, q⟩ := h
    refine ⟨_, (pss_cons (ps_set (i := 3) nd rfl (Or.inl rfl) (pe_op op_mod (pe_int) (pv 2)))
      (pss_cons (ps_for PassesOwn.never rfl (pi_range1 (by rfl) T.b_range (pa_cons (pe_int) pa_nil)) (pg_name (i := 4) nd rfl (Or.inl rfl))
      (pss_cons (ps_if (pt_cmpR op_eq (pe_op op_mod (pv 1) (pe_int)) (pe_int) (nomark _)) (pss_one (ps_set (i := 3) nd rfl (Or.inl rfl) (pe_op op_mod (pe_op op_mul (pv 3) (pv 0)) (pv 2)))) pss_nil)
      (pss_one (ps_par (i := 0) (j := 1) (by rfl) nd rfl rfl (by decide) rfl rfl (pa_cons (pe_op op_mod (pe_op op_mul (pv 0) (pv 0)) (pv 2)) (pa_cons (pe_op op_fdiv (pv 1) (pe_int)) pa_nil)) (by rfl)))))
      (pss_one (ps_ret (pv 3))))), ?_⟩
    have hr1 : 0 ≤ 1 % p ∧ 1 % p < p := ⟨Int.emod_nonneg _ (by omega), Int.emod_lt_of_pos _ (by omega)⟩
    walk_at "ev"
    refine for_range (lo := 0) (n := _) (fun i σ H' => Hold (∃ (b e r : Int) (s4 : Option V), σ = [some (.int b), some (.int e), some (.int p), some (.int r), s4] ∧ H' = H ∧ 0 ≤ b ∧ b < 10000 ∧ 0 ≤ e ∧ e < 10000 ∧ 0 ≤ r ∧ r < p)) (.mk ⟨b, e, _, none, rfl, rfl, b0, b1, e0, e1, hr1.1, hr1.2⟩) ?_ ?_
    · intro i σ H1 hi hP
      obtain ⟨b, e, r, s4, rfl, rfl, b0, b1, e0, e1, r0, r1⟩ := hP.un
      have hb : 0 ≤ b * b % p ∧ b * b % p < p := ⟨Int.emod_nonneg _ (by omega), Int.emod_lt_of_pos _ (by omega)⟩
      have hrb : 0 ≤ r * b % p ∧ r * b % p < p := ⟨Int.emod_nonneg _ (by omega), Int.emod_lt_of_pos _ (by omega)⟩
      have c1 : CMul r b := .inl ⟨by omega, by omega⟩
      have c2 : CMul b b := .inl ⟨by omega, by omega⟩
      walk_at "ev"
      refine ite2 (fun c => ?_) (fun c => ?_)
      · walk_at "ev"
        exact .mk ⟨_, _, _, _, rfl, rfl, hb.1, by omega, by omega, by omega, hrb.1, hrb.2⟩
      · walk_at "ev"
        exact .mk ⟨_, _, _, _, rfl, rfl, hb.1, by omega, by omega, by omega, r0, r1⟩
    · intro σ H1 hP
      obtain ⟨b, e, r, s4, rfl, rfl, b0, b1, e0, e1, r0, r1⟩ := hP.un
      walk_at "ev"
      exact q r r0 r1
end
abbrev s__law_least_generator : Stmt := top 24
abbrev N__law_least_generator : List Str := ["_law_prime", "_law_parts", "_law_one", "_law_part"]
abbrev P__law_least_generator : List Str := ["_law_prime"]
theorem sc__law_least_generator : FnScope N__law_least_generator P__law_least_generator (defScope s__law_least_generator) := ⟨rfl, rfl, rfl, by decide +kernel, rfl, by decide +kernel, by decide +kernel⟩
def spLeastN : Sp := fun vs H Q _ => ∃ (p : Int), vs = [.int p] ∧ 2 ≤ p ∧ p ≤ 10000 ∧ ∀ (g : Int) H', Same H H' → Q (.int g) H'
section
variable {P : Program} {w : World} {K : PySem.W.Frag} {mg : Str → Option Value} {base : Heap}
theorem ok_leastN {f f1 f2 : Addr} {fd d1 d2 : FuncData} {k : Nat} (F : Fun K "_law_least_generator" "_law_least_generator" s__law_least_generator f fd) (T : Blt mg) (D__law_is_plain_prime : Df K mg "_law_is_plain_prime" s__law_is_plain_prime P__law_is_plain_prime f1 d1) (D__law_raised : Df K mg "_law_raised" s__law_raised P__law_raised f2 d2) : FnOk P w K mg base CX0 (k + 2) f fd P__law_least_generator spLeastN := by
  have G__law_is_plain_prime : FnOk P w K mg base CX0 1 f1 d1 P__law_is_plain_prime spPlainPrime := ok_plainprime (k := 0) D__law_is_plain_prime.F T
  have G__law_raised : FnOk P w K mg base CX0 1 f2 d2 P__law_raised spRaise := ok_raise (k := 0) D__law_raised.F T
  have nd := sc__law_least_generator.nd
  refine F.ok sc__law_least_generator (fun vs H Q E h => ?_) (fun cdv A outer s H vs Q E hr h => ?_)
  · obtain ⟨p, rfl, _⟩ := h
    rfl
  · obtain ⟨p, rfl, p0, p1, q⟩ := h
    refine ⟨_, (pss_cons (ps_setLc (i := 1) (own := [("_law_part", 3)]) (g := gName 3) (by rfl) nd rfl rfl (sw_true rfl rfl rfl (by decide +kernel)) (pi_range2 (by rfl) T.b_range (pa_cons (pe_int) (pa_cons (pv 0) pa_nil))) (blkOk_by (own := [("_law_part", 3)]) (N := N__law_least_generator) (sc := defScope s__law_least_generator) (by decide +kernel)) (fun _ _ _ _ _ => (pg_name (i := 3) nd rfl (Or.inl rfl))) (fun _ _ _ _ _ => pts_one (PW.pt (pw_and (pt_cmpR op_eq (pe_op op_mod (pe_op op_sub (pv 0) (pe_int)) (pv 3)) (pe_int) (nomark _)) (pw_and1 (pt_val (pe_call G__law_is_plain_prime (hr.mono (by omega)) (by rfl) D__law_is_plain_prime.g D__law_is_plain_prime.F.kp D__law_is_plain_prime.b .nil pass0 (pa_cons (pv 3) pa_nil))))))) (fun _ _ _ _ _ => (pv 3)))
      (pss_cons (ps_for PassesOwn.never rfl (pi_range2 (by rfl) T.b_range (pa_cons (pe_int) (pa_cons (pv 0) pa_nil))) (pg_name (i := 2) nd rfl (Or.inr rfl))
      (pss_one (ps_if (pt_val (pe_callB (r := rAll K) (cr_all rfl) (by rfl) T.b_all (by decide +kernel) (pa_cons (pe_lc (own := [("_law_part", 3)]) (g := gName 3) (by rfl) nd (pi_list (pv 1)) (blkOk_by (own := [("_law_part", 3)]) (N := N__law_least_generator) (sc := defScope s__law_least_generator) (by decide +kernel)) (fun _ _ _ _ _ => (pg_name (i := 3) nd rfl (Or.inl rfl))) (fun _ _ _ _ _ => pts_nil) (fun _ _ _ _ _ => (pe_cmpR op_ne (pe_call G__law_raised (hr.mono (by omega)) (by rfl) D__law_raised.g D__law_raised.F.kp D__law_raised.b .nil pass0 (pa_cons (pv 2) (pa_cons (pe_op op_fdiv (pe_op op_sub (pv 0) (pe_int)) (pv 3)) (pa_cons (pv 0) pa_nil)))) (pe_int) (nomark _)))) pa_nil))) (pss_one (ps_ret (pv 2))) pss_nil)))
      (pss_one (ps_ret (pe_int))))), ?_⟩
    walk_at "ev"
    intro D hD
    refine lc_range (lo := 2) (n := _) (fun i H' => Hold (∃ ms : List Int, Same H H' ∧ H' D = some (.lst (ms.map V.int)) ∧ ms.length ≤ i ∧ ∀ m ∈ ms, 2 ≤ m ∧ m ≤ 10000)) (.mk ⟨[], same_new hD, upd_same, Nat.zero_le _, by simp⟩) ?_ ?_
    · intro i H2 hi hP
      obtain ⟨ms, sm2, hD2, hl, hm⟩ := hP.un
      have hfl : (ms.map V.int).length < sizeLine := by
        rw [List.length_map]
        exact szm (by omega)
      walk_at "ev"
      refine ite2 (fun e => ?_) (fun e => ?_)
      · walk_at "ev"
        intro b H3 sm3
        have hD3 := sm3 _ _ hD2
        cases b with
        | true =>
          walk_at "ev"
          refine .mk ⟨ms ++ [2 + (i : Int)], same_mut (sm2.trans sm3) hD, ?_, ?_, ?_⟩
          · rw [upd_same, List.map_append]
            rfl
          · simp
            omega
          · intro m hmm
            rcases List.mem_append.mp hmm with h | h
            · exact hm m h
            · have e : m = 2 + (i : Int) := by simpa using h
              omega
        | false =>
          walk_at "ev"
          exact .mk ⟨ms, sm2.trans sm3, hD3, by omega, hm⟩
      · walk_at "ev"
        exact .mk ⟨ms, sm2, hD2, by omega, hm⟩
    · intro H2 hP
      obtain ⟨ms, sm2, hD2, hl, hm⟩ := hP.un
      have hL := SqL.of (K := K) hD2
      walk_at "ev"
      refine for_range (lo := 1) (n := _) (fun i σ H' => Hold (∃ s2 s3, σ = [some (.int p), some (.ref D), s2, s3] ∧ Same H2 H')) (.mk ⟨none, none, rfl, Same.refl _⟩) ?_ ?_
      · intro i σ H3 hi hP3
        obtain ⟨s2, s3, rfl, sm3⟩ := hP3.un
        have hL3 := sm3.seq hL
        have hL' : ∃ xs, SqL K H3 D xs := ⟨_, hL3⟩
        walk_at "ev"
        intro D3 hD3
        refine lc_list (K := K) (a := D) (xs := ms.map V.int) (fun i H' => Hold (∃ bs : List Bool, Same H3 H' ∧ H' D3 = some (.lst (bs.map V.bl)) ∧ bs.length = i)) (.mk ⟨[], same_new hD3, upd_same, rfl⟩) ?_ ?_ ?_
        · intro i H4 hi hP4
          obtain ⟨bs, sm4, hD4, hl4⟩ := hP4.un
          exact sm4.seq hL3
        · intro j x H4 hx hP4
          obtain ⟨bs, sm4, hD4, hl4⟩ := hP4.un
          obtain ⟨m, hmm, rfl⟩ := int_mem (List.mem_of_getElem? hx)
          obtain ⟨m2, m3⟩ := hm m hmm
          have hil : j < (ms.map V.int).length := (List.getElem?_eq_some_iff.mp hx).1
          rw [List.length_map] at hil
          have hd0 : 0 ≤ (p - 1) / m ∧ (p - 1) / m < 10000 := ⟨Int.ediv_nonneg (by omega) (by omega), Int.ediv_lt_of_lt_mul (by omega) (by omega)⟩
          have hfl : (bs.map V.bl).length < sizeLine := by
            rw [List.length_map]
            exact szm (by omega)
          walk_at "ev"
          intro r r0 r1
          walk_at "ev"
          refine .mk ⟨bs ++ [_], same_mut sm4 hD3, by rw [upd_same, List.map_append]; rfl, by rw [List.length_append, hl4]; rfl⟩
        · intro H4 hP4
          obtain ⟨bs, sm4, hD4, hl4⟩ := hP4.un
          refine ⟨D3, bs, rfl, SqL.of hD4, ?_⟩
          cases bs.all id with
          | true =>
            walk_at "ev"
            exact q _ _ (sm2.trans (sm3.trans sm4))
          | false =>
            walk_at "ev"
            exact .mk ⟨_, _, rfl, sm3.trans sm4⟩
      · intro σ H3 hP3
        obtain ⟨s2, s3, rfl, sm3⟩ := hP3.un
        walk_at "ev"
        exact q _ _ (sm2.trans sm3)
end
/-! ### wheels to thirty, by a table -/
def WT : List (List Int) := [[], [-1, 1], [1, 1], [1, 1, 1], [1, 0, 1], [1, 1, 1, 1, 1], [1, -1, 1], [1, 1, 1, 1, 1, 1, 1], [1, 0, 0, 0, 1], [1, 0, 0, 1, 0, 0, 1], [1, -1, 1, -1, 1], [1, 1, 1, 1, 1, 1, 1, 1, 1, 1, 1], [1, 0, -1, 0, 1], [1, 1, 1, 1, 1, 1, 1, 1, 1, 1, 1, 1, 1], [1, -1, 1, -1, 1, -1, 1], [1, -1, 0, 1, -1, 1, 0, -1, 1], [1, 0, 0, 0, 0, 0, 0, 0, 1], [1, 1, 1, 1, 1, 1, 1, 1, 1, 1, 1, 1, 1, 1, 1, 1, 1], [1, 0, 0, -1, 0, 0, 1], [1, 1, 1, 1, 1, 1, 1, 1, 1, 1, 1, 1, 1, 1, 1, 1, 1, 1, 1], [1, 0, -1, 0, 1, 0, -1, 0, 1], [1, -1, 0, 1, -1, 0, 1, 0, -1, 1, 0, -1, 1], [1, -1, 1, -1, 1, -1, 1, -1, 1, -1, 1], [1, 1, 1, 1, 1, 1, 1, 1, 1, 1, 1, 1, 1, 1, 1, 1, 1, 1, 1, 1, 1, 1, 1], [1, 0, 0, 0, -1, 0, 0, 0, 1], [1, 0, 0, 0, 0, 1, 0, 0, 0, 0, 1, 0, 0, 0, 0, 1, 0, 0, 0, 0, 1], [1, -1, 1, -1, 1, -1, 1, -1, 1, -1, 1, -1, 1], [1, 0, 0, 0, 0, 0, 0, 0, 0, 1, 0, 0, 0, 0, 0, 0, 0, 0, 1], [1, 0, -1, 0, 1, 0, -1, 0, 1, 0, -1, 0, 1], [1, 1, 1, 1, 1, 1, 1, 1, 1, 1, 1, 1, 1, 1, 1, 1, 1, 1, 1, 1, 1, 1, 1, 1, 1, 1, 1, 1, 1], [1, 1, 0, -1, -1, -1, 0, 1, 1]]
def whl (n : Nat) : List Int := WT.getD n []
def pdv (n : Nat) : List Nat := (List.range' 1 (n - 1)).filter fun d => decide (n % d = 0)
def whS (n : Nat) : List Int := [-1] ++ List.replicate (n - 1) 0 ++ [1]
theorem whl_ok : ∀ n < 31, 1 ≤ n → (pdv n).foldl (fun t d => dvQ (whl d) t) (whS n) = whl n := by decide +kernel
theorem whl_len : ∀ n < 31, 1 ≤ n → 1 ≤ (whl n).length ∧ (whl n).length ≤ 31 := by decide +kernel
theorem whl_bnd : ∀ n < 31, ∀ x ∈ whl n, -1000000 ≤ x ∧ x ≤ 1000000 := by decide +kernel
theorem dvQ_len {bs row : List Int} : (dvQ bs row).length ≤ row.length := by
  unfold dvQ
  rw [List.length_reverse, dvN_len.2]
  omega
theorem rep_flat {n : Nat} {v : V} : (List.replicate n [v]).flatten = List.replicate n v := by
  induction n with
  | zero => rfl
  | succ n ih =>
    rw [List.replicate_succ, List.flatten_cons, ih]
    rfl
theorem cut_last {xs : List V} {v : V} : cutV (xs ++ [v]) none (some (-1)) = xs := by
  unfold cutV
  have e : HT.sIx (xs ++ [v]).length (xs ++ [v]).length (some (-1)) = xs.length := by
    simp [HT.sIx]
    try omega
  have e0 : HT.sIx (xs ++ [v]).length 0 none = 0 := by simp [HT.sIx]
  rw [e, e0, List.drop_zero, Nat.sub_zero, List.take_left]
def spWheel (j : Nat) : Sp := fun vs H Q _ => ∃ (n : Nat), vs = [.int (n : Int)] ∧ 1 ≤ n ∧ n < 31 ∧ n < 2 ^ j ∧ ∀ l H', H l = none → Same H H' → H' l = some (.lst ((whl n).map V.int)) → Q (.ref l) H'
/-! ### the law's own dividing -/
def ldN (bs row : List Int) : Nat → List Int × List Int
  | 0 => (row, [])
  | n + 1 => (subAt (row.length - bs.length - n) ((ldN bs row n).1.getD (row.length - bs.length - n + bs.length - 1) 0) bs (ldN bs row n).1 bs.length, (ldN bs row n).2 ++ [(ldN bs row n).1.getD (row.length - bs.length - n + bs.length - 1) 0])
theorem ldN_len {bs row : List Int} {n : Nat} : (ldN bs row n).1.length = row.length ∧ (ldN bs row n).2.length = n := by
  induction n with
  | zero => exact ⟨rfl, rfl⟩
  | succ n ih =>
    rw [ldN]
    refine ⟨?_, ?_⟩
    · show (subAt _ _ _ _ _).length = _
      rw [subAt_len, ih.1]
    · show List.length (_ ++ _) = _
      rw [List.length_append, ih.2]
      rfl
def ldQ (bs row : List Int) : List Int := (ldN bs row (row.length + 1 - bs.length)).2.reverse
theorem ldQ_len {bs row : List Int} (h : 1 ≤ bs.length) : (ldQ bs row).length ≤ row.length := by
  unfold ldQ
  rw [List.length_reverse, ldN_len.2]
  omega
abbrev s__law_divided : Stmt := top 25
abbrev N__law_divided : List Str := ["_law_top", "_law_low", "_law_rest", "_law_found", "_law_place", "_law_many", "_law_spot", "_law_number"]
abbrev P__law_divided : List Str := ["_law_top", "_law_low"]
theorem sc__law_divided : FnScope N__law_divided P__law_divided (defScope s__law_divided) := ⟨rfl, rfl, rfl, by decide +kernel, rfl, by decide +kernel, by decide +kernel⟩
def spLdv (K : PySem.W.Frag) : Sp := fun vs H Q _ => ∃ (a b : Addr) (row bs : List Int), vs = [.ref a, .ref b] ∧ SqL K H a (row.map V.int) ∧ SqL K H b (bs.map V.int) ∧ 1 ≤ bs.length ∧ bs.length ≤ 1000 ∧ row.length ≤ 1000 ∧ (∀ x ∈ bs, -1000000 ≤ x ∧ x ≤ 1000000) ∧
  ∀ q H', H q = none → Same H H' → H' q = some (.lst ((ldQ bs row).map V.int)) → Q (.ref q) H'
section
variable {P : Program} {w : World} {K : PySem.W.Frag} {mg : Str → Option Value} {base : Heap}
theorem ok_ldv {f : Addr} {fd : FuncData} {k : Nat} (F : Fun K "_law_divided" "_law_divided" s__law_divided f fd) (T : Blt mg) : FnOk P w K mg base CX0 (k + 1) f fd P__law_divided (spLdv K) := by
  have nd := sc__law_divided.nd
  refine F.ok sc__law_divided (fun vs H Q E h => ?_) (fun cdv A outer s H vs Q E hr h => ?_)
  · obtain ⟨a, b, row, bs, rfl, _⟩ := h
    rfl
  · obtain ⟨a, b, row, bs, rfl, ha, hb, b1, b2, r1, hbb, q⟩ := h
    refine ⟨_, (pss_cons (ps_par (i := 2) (j := 3) (by rfl) nd rfl rfl (by decide) rfl rfl (pa_cons (pe_callTy call_list_of (by rfl) T.b_list (by decide +kernel) (pa_cons (pv 0) pa_nil)) (pa_cons (pe_lst pa_nil) pa_nil)) (by rfl))
      (pss_cons (ps_for PassesOwn.never rfl (pi_range3 (by rfl) T.b_range (pa_cons (pe_op op_sub (pe_callB (r := rLenQ K) call_len_seq (by rfl) T.b_len (by decide +kernel) (pa_cons (pv 0) pa_nil)) (pe_callB (r := rLenQ K) call_len_seq (by rfl) T.b_len (by decide +kernel) (pa_cons (pv 1) pa_nil))) (pa_cons (pe_un un_neg (pe_int)) (pa_cons (pe_un un_neg (pe_int)) pa_nil)))) (pg_name (i := 4) nd rfl (Or.inl rfl))
      (pss_cons (ps_set (i := 5) nd rfl (Or.inl rfl) (pe_ix (r := rIxL K) ix_list (pv 2) (pe_op op_sub (pe_op op_add (pv 4) (pe_callB (r := rLenQ K) call_len_seq (by rfl) T.b_len (by decide +kernel) (pa_cons (pv 1) pa_nil))) (pe_int)) (fun _ _ => rfl)))
      (pss_cons (ps_expr (pe_bm PySem.F.plainAttrs_list PySem.F.slot_list_append PySem.F.type_list_append mt_append (pv 3) (pa_cons (pv 5) pa_nil)))
      (pss_one (ps_for PassesOwn.never rfl (pi_enum (by rfl) T.b_enumerate (pa_cons (pv 1) pa_nil)) (pg_tup (by rfl) (pgs_cons (pg_name (i := 6) nd rfl (Or.inl rfl)) (pgs_cons (pg_name (i := 7) nd rfl (Or.inl rfl)) pgs_nil)))
      (pss_one (ps_asg (pe_op op_sub (pe_ix (r := rIxL K) ix_list (pv 2) (pe_op op_add (pv 4) (pv 6)) (fun _ _ => rfl)) (pe_op op_mul (pv 5) (pv 7))) (pg_sub (pv 2) (pe_op op_add (pv 4) (pv 6)) set_list))))))))
      (pss_one (ps_ret (pe_revL (pv 3)))))), ?_⟩
    walk_at "ev"
    intro l1 hl1
    generalize hG : upd _ l1 _ = H1
    obtain ⟨sm1, hq1⟩ := newO hG hl1
    clear hG
    walk_at "ev"
    intro l2 hl2
    generalize hG : upd _ l2 _ = H2
    obtain ⟨sm2, hq2⟩ := newO hG hl2
    clear hG
    have n12 : l1 ≠ l2 := ne_of_none hq1 hl2
    have f2 : H l2 = none := sm1.free hl2
    have sm02 := sm1.trans sm2
    have ha2 := sm02.seq ha
    have hb2 := sm02.seq hb
    have rg : RgC (((row.map V.int).length : Int) - ((bs.map V.int).length : Int)) (-1) (-1) ((((row.map V.int).length : Int) - ((bs.map V.int).length : Int)) - (-1)).toNat := RgC.neg (by rw [List.length_map, List.length_map]; omega) (by rw [List.length_map, List.length_map]; omega) (by decide) (by decide)
    walk_at "ev"
    have en : ((((row.map V.int).length : Int) - ((bs.map V.int).length : Int)) - (-1)).toNat = row.length + 1 - bs.length := by
      rw [List.length_map, List.length_map]
      omega
    refine for_rangeC (lo := _) (c := _) (n := _) (fun n σ H' => Hold (∃ (s4 s5 s6 s7 : Option V), σ = [some (.ref a), some (.ref b), some (.ref l1), some (.ref l2), s4, s5, s6, s7] ∧ Same H H' ∧ H' l1 = some (.lst ((ldN bs row n).1.map V.int)) ∧ H' l2 = some (.lst ((ldN bs row n).2.map V.int)))) (.mk ⟨none, none, none, none, rfl, sm02, sm2 _ _ hq1, hq2⟩) ?_ ?_
    · intro n σ H3 hn hP
      obtain ⟨s4, s5, s6, s7, rfl, sm3, h1, h2⟩ := hP.un
      rw [en] at hn
      obtain ⟨e1, e2⟩ := ldN_len (bs := bs) (row := row) (n := n)
      have hL1 := SqL.of (K := K) h1
      have hb3 := sm3.seq hb
      have epl : (((row.map V.int).length : Int) - ((bs.map V.int).length : Int)) + (n : Nat) * (-1) = ((row.length - bs.length - n : Nat) : Int) := by
        rw [List.length_map, List.length_map]
        omega
      rw [epl]
      have at1 : atI ((ldN bs row n).1.map V.int) (((row.length - bs.length - n : Nat) : Int) + ((bs.map V.int).length : Int) - 1) = some (.int ((ldN bs row n).1.getD (row.length - bs.length - n + bs.length - 1) 0)) := at_map (by omega) (by rw [List.length_map]; omega)
      obtain ⟨top, htop⟩ : ∃ top, (ldN bs row n).1.getD (row.length - bs.length - n + bs.length - 1) 0 = top := ⟨_, rfl⟩
      rw [htop] at at1
      walk_at "ev"
      generalize hG : upd _ l2 _ = H4
      obtain ⟨k4, hq4⟩ := mutO hG
      have sm4 : Same H H4 := by rw [← hG]; exact same_mut sm3 f2
      clear hG
      have h14 := k4 _ _ n12 h1
      have hb4 := sm4.seq hb
      refine ⟨hb4, for_enumL (K := K) (a := b) (xs := bs.map V.int) (fun i σ H' => Hold (∃ (s6 s7 : Option V), σ = [some (.ref a), some (.ref b), some (.ref l1), some (.ref l2), some (.int ((row.length - bs.length - n : Nat) : Int)), some (.int top), s6, s7] ∧ Same H H' ∧ H' l1 = some (.lst ((subAt (row.length - bs.length - n) top bs (ldN bs row n).1 i).map V.int)) ∧ H' l2 = some (.lst ((ldN bs row n).2.map V.int ++ [.int top])))) (.mk ⟨_, _, rfl, sm4, h14, hq4⟩) ?_ ?_ ?_⟩
      · intro i σ H5 hP
        obtain ⟨s6, s7, rfl, sm5, h15, h25⟩ := hP.un
        exact sm5.seq hb
      · intro i v T' σ H5 hv hP hT
        obtain ⟨s6, s7, rfl, sm5, h15, h25⟩ := hP.un
        rw [List.getElem?_map] at hv
        obtain ⟨x, hx, ev⟩ := Option.map_eq_some_iff.mp hv
        subst ev
        have hil : i < bs.length := (List.getElem?_eq_some_iff.mp hx).1
        have exi : bs.getD i 0 = x := by rw [List.getD_eq_getElem?_getD, hx]; rfl
        have hxb := hbb x (List.mem_of_getElem? hx)
        generalize hG : upd _ T' _ = H6
        obtain ⟨sm6, hq6⟩ := newO hG hT
        clear hG
        have hT6 : SqT K H6 T' [.int (i : Nat), .int x] := SqT.of hq6
        have h16 := sm6 _ _ h15
        have hL6 := SqL.of (K := K) h16
        have hsl := subAt_len (start := row.length - bs.length - n) (top := top) (bs := bs) (r := (ldN bs row n).1) (i := i)
        have at2 : atI ((subAt (row.length - bs.length - n) top bs (ldN bs row n).1 i).map V.int) (((row.length - bs.length - n : Nat) : Int) + (i : Nat)) = some (.int ((subAt (row.length - bs.length - n) top bs (ldN bs row n).1 i).getD (row.length - bs.length - n + i) 0)) := at_map (by omega) (by omega)
        have hix : ixN ((subAt (row.length - bs.length - n) top bs (ldN bs row n).1 i).map V.int).length (((row.length - bs.length - n : Nat) : Int) + (i : Nat)) = some (row.length - bs.length - n + i) := ixn_of (by rw [List.length_map]; omega) (by omega)
        have cm : CMul top x := .inr ⟨by omega, by omega⟩
        walk_at "ev"
        refine .mk ⟨_, _, rfl, same_mut (sm5.trans sm6) hl1, ?_, ?_⟩
        · rw [upd_same, subAt, List.map_set, exi]
        · rw [upd_ne n12.symm]
          exact sm6 _ _ h25
      · intro σ H5 hP
        obtain ⟨s6, s7, rfl, sm5, h15, h25⟩ := hP.un
        rw [List.length_map] at h15
        refine .mk ⟨_, _, _, _, rfl, sm5, ?_, ?_⟩
        · rw [h15, ldN, htop]
        · rw [h25, ldN, htop, List.map_append]
          rfl
    · intro σ H3 hP
      obtain ⟨s4, s5, s6, s7, rfl, sm3, h1, h2⟩ := hP.un
      rw [en] at h2
      have hL2 := SqL.of (K := K) h2
      walk_at "ev"
      intro q1 hq
      generalize hG : upd _ q1 _ = H4
      obtain ⟨sm4, hq4⟩ := newO hG hq
      clear hG
      refine q q1 H4 (sm3.free hq) (sm3.trans sm4) ?_
      rw [hq4, ldQ, List.map_reverse]
end
theorem owl_ok : ∀ n < 31, 1 ≤ n → (pdv n).foldl (fun t d => ldQ (whl d) t) (whS n) = whl n := by decide +kernel
theorem pdv_step {n i : Nat} (h : i < n - 1) : (List.range' 1 (i + 1)).filter (fun d => decide (n % d = 0)) = (List.range' 1 i).filter (fun d => decide (n % d = 0)) ++ (if n % (1 + i) = 0 then [1 + i] else []) := by
  rw [List.range'_concat, List.filter_append, Nat.one_mul]
  congr 1
  by_cases c : n % (1 + i) = 0
  · rw [if_pos c]
    simp [c]
  · rw [if_neg c]
    simp [c]
abbrev s__law_own_wheel : Stmt := top 26
abbrev N__law_own_wheel : List Str := ["_law_number", "_law_found", "_law_part"]
abbrev P__law_own_wheel : List Str := ["_law_number"]
theorem sc__law_own_wheel : FnScope N__law_own_wheel P__law_own_wheel (defScope s__law_own_wheel) := ⟨rfl, rfl, rfl, by decide +kernel, rfl, by decide +kernel, by decide +kernel⟩
section
variable {P : Program} {w : World} {K : PySem.W.Frag} {mg : Str → Option Value} {base : Heap}
theorem own_step {f f2 : Addr} {fd d2 : FuncData} {j : Nat} (D__law_own_wheel : Df K mg "_law_own_wheel" s__law_own_wheel P__law_own_wheel f fd) (T : Blt mg) (D__law_divided : Df K mg "_law_divided" s__law_divided P__law_divided f2 d2)
    (G__law_own_wheel : FnOk P w K mg base CX0 (j + 1) f fd P__law_own_wheel (spWheel j)) : FnOk P w K mg base CX0 (j + 2) f fd P__law_own_wheel (spWheel (j + 1)) := by
  have F := D__law_own_wheel.F
  have G__law_divided : FnOk P w K mg base CX0 1 f2 d2 P__law_divided (spLdv K) := ok_ldv D__law_divided.F T
  have nd := sc__law_own_wheel.nd
  refine F.ok sc__law_own_wheel (fun vs H Q E h => ?_) (fun cdv A outer s H vs Q E hr h => ?_)
  · obtain ⟨n, rfl, _⟩ := h
    rfl
  · obtain ⟨n, rfl, n1, n31, nj, q⟩ := h
    refine ⟨_, (pss_cons (ps_set (i := 1) nd rfl (Or.inl rfl) (pe_op op_cat (pe_op op_cat (pe_lst (pa_cons (pe_un un_neg (pe_int)) pa_nil)) (pe_op op_rep (pe_lst (pa_cons (pe_int) pa_nil)) (pe_op op_sub (pv 0) (pe_int)))) (pe_lst (pa_cons (pe_int) pa_nil))))
      (pss_cons (ps_for PassesOwn.never rfl (pi_range2 (by rfl) T.b_range (pa_cons (pe_int) (pa_cons (pv 0) pa_nil))) (pg_name (i := 2) nd rfl (Or.inl rfl))
      (pss_one (ps_if (pt_cmpR op_eq (pe_op op_mod (pv 0) (pv 2)) (pe_int) (nomark _)) (pss_one (ps_set (i := 1) nd rfl (Or.inl rfl) (pe_call G__law_divided (hr.mono (by omega)) (by rfl) D__law_divided.g D__law_divided.F.kp D__law_divided.b .nil pass0 (pa_cons (pv 1) (pa_cons (pe_call G__law_own_wheel (hr.mono (by omega)) (by rfl) D__law_own_wheel.g D__law_own_wheel.F.kp D__law_own_wheel.b .nil pass0 (pa_cons (pv 2) pa_nil)) pa_nil))))) pss_nil)))
      (pss_one (ps_ret (pv 1))))), ?_⟩
    walk_at "ev"
    intro l1 hl1
    generalize hG : upd _ l1 _ = H1
    obtain ⟨sm1, hq1⟩ := newO hG hl1
    clear hG
    walk_at "ev"
    intro l2 hl2
    generalize hG : upd _ l2 _ = H2
    obtain ⟨sm2, hq2⟩ := newO hG hl2
    clear hG
    have z1 : ([V.int 0] : List V).length * ((n : Int) - 1).toNat ≤ sizeLine := szl (by show 1 * _ ≤ 60000; omega)
    walk_at "ev"
    intro l3 hl3
    generalize hG : upd _ l3 _ = H3
    obtain ⟨sm3, hq3⟩ := newO hG hl3
    clear hG
    have h13 := (sm2.trans sm3) _ _ hq1
    have z2 : ([(fun i => V.int (-i)) 1] : List V).length + (List.replicate ((n : Int) - 1).toNat [V.int 0]).flatten.length ≤ sizeLine := szl (by rw [rep_len]; show 1 + _ ≤ 60000; omega)
    walk_at "ev"
    intro l4 hl4
    generalize hG : upd _ l4 _ = H4
    obtain ⟨sm4, hq4⟩ := newO hG hl4
    clear hG
    walk_at "ev"
    intro l5 hl5
    generalize hG : upd _ l5 _ = H5
    obtain ⟨sm5, hq5⟩ := newO hG hl5
    clear hG
    have h45 := sm5 _ _ hq4
    have z3 : ([(fun i => V.int (-i)) 1] ++ (List.replicate ((n : Int) - 1).toNat [V.int 0]).flatten).length + ([V.int 1] : List V).length ≤ sizeLine := szl (by rw [List.length_append, rep_len]; show 1 + _ + 1 ≤ 60000; omega)
    walk_at "ev"
    intro l6 hl6
    generalize hG : upd _ l6 _ = H6
    obtain ⟨sm6, hq6⟩ := newO hG hl6
    clear hG
    have ew : [(fun i => V.int (-i)) 1] ++ (List.replicate ((n : Int) - 1).toNat [V.int 0]).flatten ++ [V.int 1] = (whS n).map V.int := by
      unfold whS
      rw [List.map_append, List.map_append, show ((n : Int) - 1).toNat = n - 1 by omega, List.map_replicate, rep_flat]
      rfl
    rw [ew] at hq6
    have s06 := sm1.trans (sm2.trans (sm3.trans (sm4.trans (sm5.trans sm6))))
    have f6 : H l6 = none := (sm1.trans (sm2.trans (sm3.trans (sm4.trans sm5)))).free hl6
    walk_at "ev"
    refine for_range (lo := 1) (n := _) (fun i σ H' => Hold (∃ (lt : Addr) (s2 : Option V), σ = [some (.int (n : Int)), some (.ref lt), s2] ∧ H lt = none ∧ Same H H' ∧ ((((List.range' 1 i).filter fun d => decide (n % d = 0))).foldl (fun t d => ldQ (whl d) t) (whS n)).length ≤ 1000 ∧ H' lt = some (.lst (((((List.range' 1 i).filter fun d => decide (n % d = 0))).foldl (fun t d => ldQ (whl d) t) (whS n)).map V.int)))) (.mk ⟨l6, _, rfl, f6, s06, ?_, hq6⟩) ?_ ?_
    · show (whS n).length ≤ 1000
      unfold whS
      rw [List.length_append, List.length_append, List.length_replicate]
      show 1 + (n - 1) + 1 ≤ 1000
      omega
    · intro i σ Hx hi hP
      obtain ⟨lt, s2, rfl, ft, smx, hlen, hxt⟩ := hP.un
      have hi1 : i < n - 1 := by omega
      have hst := pdv_step hi1
      have ei : (1 : Int) + (i : Nat) = ((1 + i : Nat) : Int) := by omega
      rw [ei]
      walk_at "ev"
      refine ite2 (fun c => ?_) (fun c => ?_)
      · have c1 : n % (1 + i) = 0 := by
          have := V.int.inj (of_decide_eq_true c)
          omega
        rw [if_pos c1] at hst
        have hdn : 2 * (1 + i) ≤ n := by
          obtain ⟨m, hc⟩ := Nat.dvd_of_mod_eq_zero c1
          have c2 : 2 ≤ m := by
            apply Nat.le_of_not_lt
            intro z
            have : m = 0 ∨ m = 1 := by omega
            rcases this with z | z <;> subst z <;> omega
          have := Nat.mul_le_mul_left (1 + i) c2
          omega
        have hdj : 1 + i < 2 ^ j := by
          rw [Nat.pow_succ] at nj
          omega
        have hd31 : 1 + i < 31 := by omega
        have hd0 : 1 ≤ 1 + i := by omega
        have hLt := SqL.of (K := K) hxt
        obtain ⟨wl1, wl2⟩ := whl_len (1 + i) hd31 hd0
        have wl3 : (whl (1 + i)).length ≤ 1000 := by omega
        have wb := whl_bnd (1 + i) hd31
        walk_at "ev"
        intro lw H9 hlw sm9 hq9
        have hLw := SqL.of (K := K) hq9
        have hLt9 := sm9.seq hLt
        have el := ldQ_len (bs := whl (1 + i)) (row := ((List.range' 1 i).filter fun d => decide (n % d = 0)).foldl (fun t d => ldQ (whl d) t) (whS n)) wl1
        walk_at "ev"
        intro q10 H10 hq sm10 hq10
        refine .mk ⟨q10, _, rfl, (smx.trans sm9).free hq, smx.trans (sm9.trans sm10), ?_, ?_⟩
        · rw [hst, List.foldl_append]
          show (ldQ _ _).length ≤ 1000
          omega
        · rw [hst, List.foldl_append]
          exact hq10
      · have c1 : ¬ n % (1 + i) = 0 := fun z => c (decide_eq_true (congrArg V.int (by omega)))
        rw [if_neg c1, List.append_nil] at hst
        walk_at "ev"
        refine .mk ⟨lt, _, rfl, ft, smx, ?_, ?_⟩
        · rw [hst]
          exact hlen
        · rw [hst]
          exact hxt
    · intro σ Hx hP
      obtain ⟨lt, s2, rfl, ft, smx, hlen, hxt⟩ := hP.un
      have en : ((n : Int) - 1).toNat = n - 1 := by omega
      rw [en] at hxt
      have hk := owl_ok n n31 n1
      unfold pdv at hk
      rw [hk] at hxt
      walk_at "ev"
      exact q lt Hx ft smx hxt
theorem ok_own {f f2 : Addr} {fd d2 : FuncData} (D__law_own_wheel : Df K mg "_law_own_wheel" s__law_own_wheel P__law_own_wheel f fd) (T : Blt mg) (D__law_divided : Df K mg "_law_divided" s__law_divided P__law_divided f2 d2) : ∀ j : Nat, FnOk P w K mg base CX0 (j + 1) f fd P__law_own_wheel (spWheel j)
  | 0 => ⟨fun _ _ _ _ ⟨n, _, h1, _, h2, _⟩ => absurd h2 (by rw [Nat.pow_zero]; omega), fun _ _ _ _ _ _ _ _ _ _ _ _ _ ⟨n, _, h1, _, h2, _⟩ => absurd h2 (by rw [Nat.pow_zero]; omega)⟩
  | j + 1 => own_step D__law_own_wheel T D__law_divided (ok_own D__law_own_wheel T D__law_divided j)
end
/-- the heap without two of its objects -/
def d2 (H : Hp) (b t : Addr) : Hp := fun a => if a = b ∨ a = t then none else H a
theorem d2_le {H : Hp} {b t : Addr} : Same (d2 H b t) H := fun a o h => by
  unfold d2 at h
  split at h
  · cases h
  · exact h
theorem d2_of {H : Hp} {b t a : Addr} {o : HO} (n1 : a ≠ b) (n2 : a ≠ t) (h : H a = some o) : d2 H b t a = some o := by
  unfold d2
  rw [if_neg (fun z => z.elim n1 n2)]
  exact h
theorem d2_keep {H H' : Hp} {b t : Addr} (h : ∀ a o, a ≠ b → a ≠ t → H a = some o → H' a = some o) : Same (d2 H b t) (d2 H' b t) := fun a o e => by
  unfold d2 at *
  split at e
  · cases e
  · rename_i c
    rw [if_neg c]
    exact h a o (fun z => c (.inl z)) (fun z => c (.inr z)) e
theorem d2_k {H H' : Hp} {b t : Addr} (h : Keep b H H') : Same (d2 H b t) (d2 H' b t) := d2_keep fun a o n1 _ e => h a o n1 e
theorem d2_t {H : Hp} {b t : Addr} {o : HO} : Same (d2 H b t) (d2 (upd H t o) b t) := d2_keep fun a u _ n2 e => by rw [upd_ne n2]; exact e
theorem dp_es {K : PySem.W.Frag} {H : Hp} : ∀ {es : List (V × PyData)}, (∀ e ∈ es, Dp K H e.1 e.2) → DpAll K H (es.map (·.1)) (es.map (·.2))
  | [], _ => .nil
  | e :: r, h => .cons (h e List.mem_cons_self) (dp_es fun x hx => h x (List.mem_cons_of_mem _ hx))
theorem du {k : Nat} {A : Around} (h : Room k A) : A.units + 1 < cLine := by
  have := h.units
  omega
theorem keep_free {b p : Addr} {H H' : Hp} (k : Keep b H H') (n : p ≠ b) (h : H' p = none) : H p = none := by
  cases u : H p with
  | none => rfl
  | some o =>
    rw [k p o n u] at h
    cases h
abbrev wrldK (n : Nat) (l : Addr) : List (Key × V) := [(.inr "kind", .str "roots"), (.inr "by", .int (n : Int)), (.inr "wheel", .ref l), (.inr "first", .non)]

abbrev wrldR (p g : Int) : List (Key × V) := [(.inr "kind", .str "rests"), (.inr "by", .int p), (.inr "wheel", .non), (.inr "first", .int g)]
def Bd (B : Nat) (xs : List Int) : Prop := ∀ x ∈ xs, x.natAbs ≤ B
def WdAt (H : Hp) (b d : Addr) : Prop := d ≠ b ∧ ((∃ p g : Int, 2 ≤ p ∧ p ≤ 2521 ∧ H d = some (.dK (wrldR p g))) ∨ (∃ n l, 1 ≤ n ∧ n < 31 ∧ l ≠ b ∧ H d = some (.dK (wrldK n l)) ∧ H l = some (.lst ((whl n).map V.int))))
theorem WdAt.keep {H H' : Hp} {b d : Addr} (h : WdAt H b d) (e : Keep b H H') : WdAt H' b d := by
  obtain ⟨h1, ⟨p, g, a, c, h2⟩ | ⟨n, l, a, c, h3, h4, h5⟩⟩ := h
  · exact ⟨h1, .inl ⟨p, g, a, c, e _ _ h1 h2⟩⟩
  · exact ⟨h1, .inr ⟨n, l, a, c, h3, e _ _ h1 h4, e _ _ h3 h5⟩⟩
theorem dget_w {H : Hp} {d l : Addr} {n : Nat} (h : H d = some (.dK (wrldK n l))) : DGet H d (.str "kind") (some (.str "roots")) ∧ DGet H d (.str "by") (some (.int (n : Int))) ∧ DGet H d (.str "wheel") (some (.ref l)) :=
  ⟨DGet.k (k := .inr "kind") h, DGet.k (k := .inr "by") h, DGet.k (k := .inr "wheel") h⟩
theorem dget_r {H : Hp} {d : Addr} {p g : Int} (h : H d = some (.dK (wrldR p g))) : DGet H d (.str "kind") (some (.str "rests")) ∧ DGet H d (.str "by") (some (.int p)) :=
  ⟨DGet.k (k := .inr "kind") h, DGet.k (k := .inr "by") h⟩
theorem whl_l : ∀ n < 31, 1 ≤ n → 2 ≤ (whl n).length ∧ (whl n).length ≤ 31 := by decide +kernel
def prL : List Int := [97, 13, 31, 37, 61, 73, 181, 241, 337, 421, 257, 2521, 41, 17, 7, 5, 3, 2]
theorem prL_b : ∀ x ∈ prL, 2 ≤ x ∧ x ≤ 2521 := by decide
abbrev s__law_world : Stmt := top 27
abbrev N__law_world : List Str := ["_law_box_here", "_law_primes", "_law_prime", "_law_number"]
abbrev P__law_world : List Str := ["_law_box_here"]
theorem sc__law_world : FnScope N__law_world P__law_world (defScope s__law_world) := ⟨rfl, rfl, rfl, by decide +kernel, rfl, by decide +kernel, by decide +kernel⟩
def spWorld : Sp := fun vs H Q _ => ∃ (b : Addr) (c : Int), vs = [.ref b] ∧ BoxAt H b c ∧ c < 900000 ∧ ∀ d H', H d = none → Keep b H H' → BoxAt H' b (c + 4) → WdAt H' b d → Q (.ref d) H'
section
variable {P : Program} {w : World} {K : PySem.W.Frag} {mg : Str → Option Value} {base : Heap}
theorem ok_world {f f1 f2 f3 f4 f5 f6 : Addr} {fd d1 d2 d3 d4 d5 d6 : FuncData} (F : Fun K "_law_world" "_law_world" s__law_world f fd) (T : Blt mg) (D__law_take : Df K mg "_law_take" s__law_take P__law_take f1 d1) (D__law_own_wheel : Df K mg "_law_own_wheel" s__law_own_wheel P__law_own_wheel f2 d2) (D__law_divided : Df K mg "_law_divided" s__law_divided P__law_divided f3 d3)
    (D__law_least_generator : Df K mg "_law_least_generator" s__law_least_generator P__law_least_generator f4 d4) (D__law_is_plain_prime : Df K mg "_law_is_plain_prime" s__law_is_plain_prime P__law_is_plain_prime f5 d5) (D__law_raised : Df K mg "_law_raised" s__law_raised P__law_raised f6 d6) : FnOk P w K mg base CX0 7 f fd P__law_world spWorld := by
  have G__law_take : FnOk P w K mg base CX0 1 f1 d1 P__law_take spTake := ok_take D__law_take.F
  have G__law_own_wheel : FnOk P w K mg base CX0 6 f2 d2 P__law_own_wheel (spWheel 5) := ok_own D__law_own_wheel T D__law_divided 5
  have G__law_least_generator : FnOk P w K mg base CX0 2 f4 d4 P__law_least_generator spLeastN := ok_leastN (k := 0) D__law_least_generator.F T D__law_is_plain_prime D__law_raised
  have nd := sc__law_world.nd
  refine F.ok sc__law_world (fun vs H Q E h => ?_) (fun cdv A outer s H vs Q E hr h => ?_)
  · obtain ⟨b, c, rfl, _⟩ := h
    rfl
  · obtain ⟨b, c, rfl, hb, hc, q⟩ := h
    refine ⟨_, (pss_cons (ps_if (pt_cmpR op_gt (pe_call G__law_take (hr.mono (by omega)) (by rfl) D__law_take.g D__law_take.F.kp D__law_take.b .nil pass0 (pa_cons (pv 0) (pa_cons (pe_int) pa_nil))) (pe_int) (nomark _)) (pss_cons (ps_set (i := 1) nd rfl (Or.inl rfl) (pe_lst (pa_cons (pe_int) (pa_cons (pe_int) (pa_cons (pe_int) (pa_cons (pe_int) (pa_cons (pe_int) (pa_cons (pe_int) (pa_cons (pe_int) (pa_cons (pe_int) (pa_cons (pe_int) (pa_cons (pe_int) (pa_cons (pe_int) (pa_cons (pe_int) (pa_cons (pe_int) (pa_cons (pe_int) (pa_cons (pe_int) (pa_cons (pe_int) (pa_cons (pe_int) (pa_cons (pe_int) pa_nil))))))))))))))))))))
      (pss_cons (ps_set (i := 2) nd rfl (Or.inl rfl) (pe_ix (r := rIxL K) ix_list (pv 1) (pe_call G__law_take (hr.mono (by omega)) (by rfl) D__law_take.g D__law_take.F.kp D__law_take.b .nil pass0 (pa_cons (pv 0) (pa_cons (pe_ix (r := rIxL K) ix_list (pe_lst (pa_cons (pe_int) (pa_cons (pe_int) pa_nil))) (pe_call G__law_take (hr.mono (by omega)) (by rfl) D__law_take.g D__law_take.F.kp D__law_take.b .nil pass0 (pa_cons (pv 0) (pa_cons (pe_int) pa_nil))) (fun _ _ => rfl)) pa_nil))) (fun _ _ => rfl)))
      (pss_one (ps_ret (pe_disp (pps_cons (pe_str) (pe_str) (pps_cons (pe_str) (pv 2) (pps_cons (pe_str) (pe_non) (pps_cons (pe_str) (pe_call G__law_least_generator (hr.mono (by omega)) (by rfl) D__law_least_generator.g D__law_least_generator.F.kp D__law_least_generator.b .nil pass0 (pa_cons (pv 2) pa_nil)) pps_nil)))) (by rfl) (by rfl) (by simp) (by decide)))))) pss_nil)
      (pss_cons (ps_set (i := 3) nd rfl (Or.inl rfl) (pe_ix (r := rIxL K) ix_list (pe_lst (pa_cons (pe_int) (pa_cons (pe_int) (pa_cons (pe_int) (pa_cons (pe_int) (pa_cons (pe_int) (pa_cons (pe_int) (pa_cons (pe_op op_add (pe_int) (pe_call G__law_take (hr.mono (by omega)) (by rfl) D__law_take.g D__law_take.F.kp D__law_take.b .nil pass0 (pa_cons (pv 0) (pa_cons (pe_int) pa_nil)))) (pa_cons (pe_op op_add (pe_int) (pe_call G__law_take (hr.mono (by omega)) (by rfl) D__law_take.g D__law_take.F.kp D__law_take.b .nil pass0 (pa_cons (pv 0) (pa_cons (pe_int) pa_nil)))) pa_nil))))))))) (pe_call G__law_take (hr.mono (by omega)) (by rfl) D__law_take.g D__law_take.F.kp D__law_take.b .nil pass0 (pa_cons (pv 0) (pa_cons (pe_int) pa_nil))) (fun _ _ => rfl)))
      (pss_one (ps_ret (pe_disp (pps_cons (pe_str) (pe_str) (pps_cons (pe_str) (pv 3) (pps_cons (pe_str) (pe_call G__law_own_wheel (hr.mono (by omega)) (by rfl) D__law_own_wheel.g D__law_own_wheel.F.kp D__law_own_wheel.b .nil pass0 (pa_cons (pv 3) pa_nil)) (pps_cons (pe_str) (pe_non) pps_nil)))) (by rfl) (by rfl) (by simp) (by decide)))))), ?_⟩
    walk_at "ev"
    intro r1 H1 r10 r11 k1 hb1
    walk_at "ev"
    refine ite2 (fun c1 => ?_) (fun c1 => ?_)
    · walk_at "ev"
      w_cond _2
      have hb2 := hb1.same sm2
      have n2b := hb1.ne hl2
      walk_at "ev"
      w_cond _3
      have hb3 := hb2.same sm3
      have n3b := hb2.ne hl3
      walk_at "ev"
      intro r4 H4 r40 r41 k4 hb4
      have hL4 := SqL.of (K := K) (k4 _ _ n3b hq3)
      obtain ⟨t, ht, hat⟩ : ∃ t : Int, (1 ≤ t ∧ t ≤ 18) ∧ atI [V.int 8, V.int 18] r4 = some (.int t) := by
        have : r4 = 0 ∨ r4 = 1 := by omega
        rcases this with z | z <;> subst z
        · exact ⟨8, by omega, rfl⟩
        · exact ⟨18, by omega, rfl⟩
      obtain ⟨t1, t2⟩ := ht
      walk_at "ev"
      intro r5 H5 r50 r51 k5 hb5
      have hL5 : SqL K H5 l2 (prL.map V.int) := SqL.of (k5 _ _ n2b (k4 _ _ n2b (sm3 _ _ hq2)))
      obtain ⟨pr, hpm, hpa⟩ := at_ints (ns := prL) (k := r5) r50 (by show r5 < 18; omega)
      obtain ⟨p2, p3⟩ := prL_b pr hpm
      walk_at "ev"
      intro p hp
      generalize hG : upd H5 p _ = H6
      obtain ⟨sm6, hq6⟩ := newO hG hp
      clear hG
      have hb6 := hb5.same sm6
      have npb : p ≠ b := hb5.ne hp
      walk_at "ev"
      intro g H7 sm7
      have hq7 := sm7 _ _ hq6
      have em : mergeK [] (wrldR pr g) = wrldR pr g := rfl
      have k15 : Keep b H H5 := k1.trans ((keepS (sm2.trans sm3)).trans (k4.trans k5))
      walk_at "ev"
      refine ⟨(show _ = List.map (fun kv : Key × V => (kV kv.1, kv.2)) (wrldR pr g) from rfl), (by show 4 ≤ 15; decide), ?_⟩
      rw [em]
      exact q p _ (keep_free k15 npb hp) (keep_fresh (k15.trans (keepS (sm6.trans sm7))) (keep_free k15 npb hp)) (((hb6.same sm7).upd npb).mono (by omega)) ⟨npb, .inl ⟨pr, g, p2, p3, upd_same⟩⟩
    · walk_at "ev"
      intro r2 H2 r20 r21 k2 hb2
      walk_at "ev"
      intro r3 H3 r30 r31 k3 hb3
      walk_at "ev"
      w_cond _4
      have hb4 := hb3.same sm4
      have n4b := hb3.ne hl4
      walk_at "ev"
      intro r5 H5 r50 r51 k5 hb5
      have hL5 := SqL.of (K := K) (k5 _ _ n4b hq4)
      obtain ⟨n, hn, hat⟩ : ∃ n : Nat, (1 ≤ n ∧ n < 31) ∧ atI [V.int 12, V.int 4, V.int 6, V.int 8, V.int 12, V.int 20, V.int (1 + r2), V.int (1 + r3)] r5 = some (.int (n : Int)) := by
        have : r5 = 0 ∨ r5 = 1 ∨ r5 = 2 ∨ r5 = 3 ∨ r5 = 4 ∨ r5 = 5 ∨ r5 = 6 ∨ r5 = 7 := by omega
        rcases this with z | z | z | z | z | z | z | z <;> subst z
        · exact ⟨12, by decide, rfl⟩
        · exact ⟨4, by decide, rfl⟩
        · exact ⟨6, by decide, rfl⟩
        · exact ⟨8, by decide, rfl⟩
        · exact ⟨12, by decide, rfl⟩
        · exact ⟨20, by decide, rfl⟩
        · obtain ⟨m, hm⟩ := Int.eq_ofNat_of_zero_le (show 0 ≤ 1 + r2 by omega)
          exact ⟨m, by omega, by rw [← hm]; rfl⟩
        · obtain ⟨m, hm⟩ := Int.eq_ofNat_of_zero_le (show 0 ≤ 1 + r3 by omega)
          exact ⟨m, by omega, by rw [← hm]; rfl⟩
      obtain ⟨n1, n31⟩ := hn
      have n32 : n < 2 ^ 5 := by omega
      walk_at "ev"
      intro p hp
      generalize hG : upd H5 p _ = H6
      obtain ⟨sm6, hq6⟩ := newO hG hp
      clear hG
      have hb6 := hb5.same sm6
      walk_at "ev"
      intro l H7 hl sm7 hq7
      have hq67 := sm7 _ _ hq6
      have npl : l ≠ p := (ne_of_none hq6 hl).symm
      have npb : p ≠ b := hb5.ne hp
      have nlb : l ≠ b := hb6.ne hl
      have em : mergeK [] (wrldK n l) = wrldK n l := rfl
      have k15 : Keep b H H5 := k1.trans (k2.trans (k3.trans ((keepS sm4).trans k5)))
      walk_at "ev"
      refine ⟨(show _ = List.map (fun kv : Key × V => (kV kv.1, kv.2)) (wrldK n l) from rfl), (by show 4 ≤ 15; decide), ?_⟩
      rw [em]
      exact q p _ (keep_free k15 npb hp) (keep_fresh (k15.trans (keepS (sm6.trans sm7))) (keep_free k15 npb hp)) (((hb6.same sm7).upd npb).mono (by omega)) ⟨npb, .inr ⟨n, l, n1, n31, nlb, upd_same, by rw [upd_ne npl]; exact hq7⟩⟩
end
/-- a worth, whichever -/
def Wv (H : Hp) (v : V) : Prop := (∃ i : Int, v = .int i ∧ 0 ≤ i ∧ i ≤ 10000) ∨ (∃ t xs, v = .ref t ∧ H t = some (.tup (xs.map V.int)) ∧ Bd 1000000000 xs ∧ xs.length ≤ 30)
theorem Wv.upd {H : Hp} {v : V} {D : Addr} {ys zs : List V} (h : Wv H v) (e : H D = some (.lst ys)) : Wv (L2.upd H D (.lst zs)) v := by
  rcases h with ⟨i, h1, h2⟩ | ⟨t, xs, h1, h2, h3⟩
  · exact .inl ⟨i, h1, h2⟩
  · refine .inr ⟨t, xs, h1, ?_, h3⟩
    rw [upd_ne (fun z => by rw [z, e] at h2; cases h2)]
    exact h2
theorem Wv.keep {H H' : Hp} {v : V} {b : Addr} {n : Int} (h : Wv H v) (hb : BoxAt H b n) (k : Keep b H H') : Wv H' v := by
  rcases h with ⟨i, h1, h2⟩ | ⟨t, xs, h1, h2, h3⟩
  · exact .inl ⟨i, h1, h2⟩
  · obtain ⟨x, y, z, a1, a2⟩ := hb
    exact .inr ⟨t, xs, h1, k _ _ (fun z => by rw [z, a1] at h2; cases h2) h2, h3⟩
theorem Wv.new {H : Hp} {v : V} {D : Addr} {o : HO} (h : Wv H v) (e : H D = none) : Wv (L2.upd H D o) v := by
  rcases h with ⟨i, h1, h2⟩ | ⟨t, xs, h1, h2, h3⟩
  · exact .inl ⟨i, h1, h2⟩
  · exact .inr ⟨t, xs, h1, same_new e _ _ h2, h3⟩
abbrev s__law_worth : Stmt := top 28
abbrev N__law_worth : List Str := ["_law_box_here", "_law_world_here", "_law_prime", "_law_some", "_law_found", "_law_turn", "_law_way"]
abbrev P__law_worth : List Str := ["_law_box_here", "_law_world_here"]
theorem sc__law_worth : FnScope N__law_worth P__law_worth (defScope s__law_worth) := ⟨rfl, rfl, rfl, by decide +kernel, rfl, by decide +kernel, by decide +kernel⟩
def spWorthG : Sp := fun vs H Q _ => ∃ (b d : Addr) (c : Int), vs = [.ref b, .ref d] ∧ BoxAt H b c ∧ c < 900000 ∧ WdAt H b d ∧ ∀ v H', Keep b H H' → BoxAt H' b (c + 90) → Wv H' v → Q v H'
section
variable {P : Program} {w : World} {K : PySem.W.Frag} {mg : Str → Option Value} {base : Heap}
theorem ok_worthG {f f1 f2 : Addr} {fd d1 d2 : FuncData} {k : Nat} (F : Fun K "_law_worth" "_law_worth" s__law_worth f fd) (T : Blt mg) (D__law_take : Df K mg "_law_take" s__law_take P__law_take f1 d1) (D__law_pick : Df K mg "_law_pick" s__law_pick P__law_pick f2 d2) : FnOk P w K mg base CX0 (k + 3) f fd P__law_worth spWorthG := by
  have G__law_take : FnOk P w K mg base CX0 1 f1 d1 P__law_take spTake := ok_take D__law_take.F
  have G__law_pick : FnOk P w K mg base CX0 2 f2 d2 P__law_pick (spPick K) := ok_pick (k := 0) D__law_pick.F T D__law_take
  have nd := sc__law_worth.nd
  refine F.ok sc__law_worth (fun vs H Q E h => ?_) (fun cdv A outer s H vs Q E hr h => ?_)
  · obtain ⟨b, d, c, rfl, _⟩ := h
    rfl
  · obtain ⟨b, d, c, rfl, hb, hc, hW, q⟩ := h
    refine ⟨_, (pss_cons (ps_if (pt_cmpR op_eq (pe_dget (du hr) (pv 1) (pe_str) (fun _ _ => rfl)) (pe_str) (nomark _)) (pss_cons (ps_set (i := 2) nd rfl (Or.inl rfl) (pe_dget (du hr) (pv 1) (pe_str) (fun _ _ => rfl)))
      (pss_cons (ps_set (i := 3) nd rfl (Or.inl rfl) (pe_lst (pa_cons (pe_int) (pa_cons (pe_op op_mod (pe_int) (pv 2)) (pa_cons (pe_op op_sub (pv 2) (pe_int)) (pa_cons (pe_call G__law_take (hr.mono (by omega)) (by rfl) D__law_take.g D__law_take.F.kp D__law_take.b .nil pass0 (pa_cons (pv 0) (pa_cons (pv 2) pa_nil))) (pa_cons (pe_call G__law_take (hr.mono (by omega)) (by rfl) D__law_take.g D__law_take.F.kp D__law_take.b .nil pass0 (pa_cons (pv 0) (pa_cons (pv 2) pa_nil))) (pa_cons (pe_call G__law_take (hr.mono (by omega)) (by rfl) D__law_take.g D__law_take.F.kp D__law_take.b .nil pass0 (pa_cons (pv 0) (pa_cons (pe_callB (call_min2 rfl) (by rfl) T.b_min (by decide +kernel) (pa_cons (pv 2) (pa_cons (pe_int) pa_nil))) pa_nil))) pa_nil))))))))
      (pss_one (ps_ret (pe_call G__law_pick (hr.mono (by omega)) (by rfl) D__law_pick.g D__law_pick.F.kp D__law_pick.b .nil pass0 (pa_cons (pv 0) (pa_cons (pv 3) pa_nil))))))) pss_nil)
      (pss_cons (ps_set (i := 4) nd rfl (Or.inl rfl) (pe_lst pa_nil))
      (pss_cons (ps_for PassesOwn.never rfl (pi_range1 (by rfl) T.b_range (pa_cons (pe_op op_sub (pe_callB (r := rLenQ K) call_len_seq (by rfl) T.b_len (by decide +kernel) (pa_cons (pe_dget (du hr) (pv 1) (pe_str) (fun _ _ => rfl)) pa_nil)) (pe_int)) pa_nil)) (pg_name (i := 5) nd rfl (Or.inl rfl))
      (pss_cons (ps_set (i := 6) nd rfl (Or.inl rfl) (pe_call G__law_take (hr.mono (by omega)) (by rfl) D__law_take.g D__law_take.F.kp D__law_take.b .nil pass0 (pa_cons (pv 0) (pa_cons (pe_int) pa_nil))))
      (pss_one (ps_expr (pe_bm PySem.F.plainAttrs_list PySem.F.slot_list_append PySem.F.type_list_append mt_append (pv 4) (pa_cons (pe_ix (r := rIxL K) ix_list (pe_lst (pa_cons (pe_int) (pa_cons (pe_int) (pa_cons (pe_un un_neg (pe_int)) (pa_cons (pe_op op_sub (pe_call G__law_take (hr.mono (by omega)) (by rfl) D__law_take.g D__law_take.F.kp D__law_take.b .nil pass0 (pa_cons (pv 0) (pa_cons (pe_int) pa_nil))) (pe_int)) (pa_cons (pe_op op_sub (pe_call G__law_take (hr.mono (by omega)) (by rfl) D__law_take.g D__law_take.F.kp D__law_take.b .nil pass0 (pa_cons (pv 0) (pa_cons (pe_int) pa_nil))) (pe_int)) (pa_cons (pe_op op_pow (pe_int) (pe_int)) (pa_cons (pe_op op_sub (pe_int) (pe_op op_pow (pe_int) (pe_int))) pa_nil)))))))) (pv 6) (fun _ _ => rfl)) pa_nil))))))
      (pss_one (ps_ret (pe_callTy call_tuple_of (by rfl) T.b_tuple (by decide +kernel) (pa_cons (pv 4) pa_nil))))))), ?_⟩
    obtain ⟨ndb, ⟨pr, g, p2, p3, hd⟩ | ⟨n, l, n1, n31, nlb, hd, hl⟩⟩ := hW
    · obtain ⟨g1, g2⟩ := dget_r hd
      have r0 : 0 ≤ 1 % pr ∧ 1 % pr < pr := ⟨Int.emod_nonneg _ (by omega), Int.emod_lt_of_pos _ (by omega)⟩
      walk_at "ev"
      intro r1 H1 r10 r11 k1 hb1
      walk_at "ev"
      intro r2 H2 r20 r21 k2 hb2
      have hm : 1 ≤ min pr 9 ∧ min pr 9 ≤ 9 := by omega
      walk_at "ev"
      intro r3 H3 r30 r31 k3 hb3
      walk_at "ev"
      w_cond _4
      have hb4 := hb3.same sm4
      have n4b := hb3.ne hl4
      have hL4 := SqL.of (K := K) hq4
      walk_at "ev"
      intro v H5 hv k5 hb5
      refine q v H5 (k1.trans (k2.trans (k3.trans ((keepS sm4).trans k5)))) (hb5.mono (by omega)) (.inl ?_)
      simp only [List.mem_cons, List.not_mem_nil, or_false] at hv
      rcases hv with z | z | z | z | z | z <;> subst z
      · exact ⟨_, rfl, by omega, by omega⟩
      · exact ⟨_, rfl, by omega, by omega⟩
      · exact ⟨_, rfl, by omega, by omega⟩
      · exact ⟨_, rfl, by omega, by omega⟩
      · exact ⟨_, rfl, by omega, by omega⟩
      · exact ⟨_, rfl, by omega, by omega⟩
    obtain ⟨g1, g2, g3⟩ := dget_w hd
    obtain ⟨w2, w31⟩ := whl_l n n31 n1
    walk_at "ev"
    w_cond _1
    have g3' := (dget_w (sm1 _ _ hd)).2.2
    have hl1' : SqL K H1 l ((whl n).map V.int) ∨ SqT K H1 l ((whl n).map V.int) := .inl (SqL.of (sm1 _ _ hl))
    have hb1 := hb.same sm1
    have n1b := hb.ne hl1
    have elen : ((((whl n).map V.int).length : Int) - 1) = (((whl n).length - 1 : Nat) : Int) := by rw [List.length_map]; omega
    walk_at "ev"
    refine for_range (lo := 0) (n := _) (fun i σ H' => Hold (∃ (xs : List Int) (s5 s6 : Option V), σ = [some (.ref b), some (.ref d), none, none, some (.ref l1), s5, s6] ∧ xs.length = i ∧ Bd 1000000000 xs ∧ Keep b H H' ∧ BoxAt H' b (c + 3 * (i : Int)) ∧ H' l1 = some (.lst (xs.map V.int)))) (.mk ⟨[], none, none, rfl, rfl, (fun x hx => by cases hx), keepS sm1, hb1.mono (by omega), hq1⟩) ?_ ?_
    · intro i σ H2 hi hP
      obtain ⟨xs, s5, s6, rfl, hxl, hbd, k2, hb2, hq2⟩ := hP.un
      have hi31 : i < 31 := by
        rw [List.length_map] at hi
        omega
      walk_at "ev"
      intro r3 H3 r30 r31 k3 hb3
      have hq3 := k3 _ _ n1b hq2
      have ty3 : tyV K "list" (.ref l1) H3 := .inl ⟨rfl, _, SqL.of hq3⟩
      walk_at "ev"
      intro r4 H4 r40 r41 k4 hb4
      walk_at "ev"
      intro r5 H5 r50 r51 k5 hb5
      walk_at "ev"
      w_cond _6
      have hL6 := SqL.of (K := K) hq6
      have hq16 := sm6 _ _ (k5 _ _ n1b (k4 _ _ n1b hq3))
      have e9 : (10 : Int) ^ Int.toNat 9 = 1000000000 := by decide
      rw [e9] at hL6
      obtain ⟨z, hz, hat⟩ : ∃ z : Int, z.natAbs ≤ 1000000000 ∧ atI [V.int 0, V.int 1, V.int (-1), V.int (r4 - 9), V.int (r5 - 99), V.int 1000000000, V.int (0 - 1000000000)] r3 = some (.int z) := by
        have : r3 = 0 ∨ r3 = 1 ∨ r3 = 2 ∨ r3 = 3 ∨ r3 = 4 ∨ r3 = 5 ∨ r3 = 6 := by omega
        rcases this with z | z | z | z | z | z | z <;> subst z
        · exact ⟨0, by omega, rfl⟩
        · exact ⟨1, by omega, rfl⟩
        · exact ⟨-1, by omega, rfl⟩
        · exact ⟨r4 - 9, by omega, rfl⟩
        · exact ⟨r5 - 99, by omega, rfl⟩
        · exact ⟨1000000000, by omega, rfl⟩
        · exact ⟨0 - 1000000000, by omega, rfl⟩
      have hsz : (xs.map V.int).length < sizeLine := szm (by rw [List.length_map]; omega)
      walk_at "ev"
      refine .mk ⟨xs ++ [z], _, _, rfl, by rw [List.length_append, hxl]; rfl, fun x hx => ?_, keep_fresh (k2.trans (k3.trans (k4.trans (k5.trans (keepS sm6))))) hl1, ((hb5.same sm6).upd n1b).mono (by omega), ?_⟩
      · rcases List.mem_append.mp hx with y | y
        · exact hbd x y
        · rw [List.mem_singleton.mp y]
          exact hz
      · rw [upd_same, List.map_append]
        rfl
    · intro σ H2 hP
      obtain ⟨xs, s5, s6, rfl, hxl, hbd, k2, hb2, hq2⟩ := hP.un
      walk_at "ev"
      refine .inl ⟨SqL.of hq2, ?_⟩
      w_cond _3
      have hm : xs.length = (whl n).length - 1 := by
        rw [hxl, List.length_map]
        omega
      refine q (.ref l3) H3 (k2.trans (keepS sm3)) ((hb2.same sm3).mono ?_) (.inr ⟨l3, xs, rfl, hq3, hbd, by omega⟩)
      rw [← hxl, hm]
      omega
end
abbrev s__law_row : Stmt := top 29
abbrev N__law_row : List Str := ["_law_box_here", "_law_world_here", "_law_count", "_law_k"]
abbrev P__law_row : List Str := ["_law_box_here", "_law_world_here", "_law_count"]
theorem sc__law_row : FnScope N__law_row P__law_row (defScope s__law_row) := ⟨rfl, rfl, rfl, by decide +kernel, rfl, by decide +kernel, by decide +kernel⟩
def spRowG : Sp := fun vs H Q _ => ∃ (b d : Addr) (c m : Int), vs = [.ref b, .ref d, .int m] ∧ BoxAt H b c ∧ c < 800000 ∧ 0 ≤ m ∧ m ≤ 100 ∧ WdAt H b d ∧ ∀ p xs H', H p = none → Keep b H H' → BoxAt H' b (c + 9000) → (xs.length : Int) = m → (∀ v ∈ xs, Wv H' v) → H' p = some (.lst xs) → Q (.ref p) H'
section
variable {P : Program} {w : World} {K : PySem.W.Frag} {mg : Str → Option Value} {base : Heap}
theorem ok_rowG {f f1 f2 f3 : Addr} {fd d1 d2 d3 : FuncData} {k : Nat} (F : Fun K "_law_row" "_law_row" s__law_row f fd) (T : Blt mg) (D__law_worth : Df K mg "_law_worth" s__law_worth P__law_worth f3 d3) (D__law_take : Df K mg "_law_take" s__law_take P__law_take f1 d1) (D__law_pick : Df K mg "_law_pick" s__law_pick P__law_pick f2 d2) : FnOk P w K mg base CX0 (k + 4) f fd P__law_row spRowG := by
  have G__law_worth : FnOk P w K mg base CX0 3 f3 d3 P__law_worth spWorthG := ok_worthG (k := 0) D__law_worth.F T D__law_take D__law_pick
  have nd := sc__law_row.nd
  refine F.ok sc__law_row (fun vs H Q E h => ?_) (fun cdv A outer s H vs Q E hr h => ?_)
  · obtain ⟨b, d, c, m, rfl, _⟩ := h
    rfl
  · obtain ⟨b, d, c, m, rfl, hb, hc, m0, m1, hW, q⟩ := h
    refine ⟨_, (pss_one (ps_ret (pe_lc (own := [("_law_k", 3)]) (g := gName 3) (by rfl) nd (pi_range1 (by rfl) T.b_range (pa_cons (pv 2) pa_nil)) (blkOk_by (own := [("_law_k", 3)]) (N := N__law_row) (sc := defScope s__law_row) (by decide +kernel)) (fun _ _ _ _ _ => (pg_name (i := 3) nd rfl (Or.inl rfl))) (fun _ _ _ _ _ => pts_nil) (fun _ _ _ _ _ => (pe_call G__law_worth (hr.mono (by omega)) (by rfl) D__law_worth.g D__law_worth.F.kp D__law_worth.b .nil pass0 (pa_cons (pv 0) (pa_cons (pv 1) pa_nil))))))), ?_⟩
    walk_at "ev"
    intro D hD
    have nDb := hb.ne hD
    refine lc_range (lo := 0) (n := _) (fun i H' => Hold (Keep b H H' ∧ BoxAt H' b (c + 90 * (i : Int)) ∧ ∃ xs : List V, xs.length = i ∧ (∀ v ∈ xs, Wv H' v) ∧ H' D = some (.lst xs))) (.mk ⟨keepS (same_new hD), (hb.upd nDb).mono (by omega), [], rfl, (fun v hv => by cases hv), upd_same⟩) ?_ ?_
    · intro i H2 hi hP
      obtain ⟨k2, hb2, xs, hxl, hx, hD2⟩ := hP.un
      have hW2 := hW.keep k2
      have hi100 : i < 100 := by omega
      walk_at "ev"
      intro v H3 k3 hb3 hv
      have hD3 := k3 _ _ nDb hD2
      refine ⟨_, hD3, szm (by omega), .mk ⟨keep_fresh (k2.trans k3) hD, (hb3.upd nDb).mono (by omega), xs ++ [v], by rw [List.length_append, hxl]; rfl, fun y hy => ?_, upd_same⟩⟩
      rcases List.mem_append.mp hy with z | z
      · exact ((hx y z).keep hb2 k3).upd hD3
      · rw [List.mem_singleton.mp z]
        exact hv.upd hD3
    · intro H2 hP
      obtain ⟨k2, hb2, xs, hxl, hx, hD2⟩ := hP.un
      exact q D xs H2 hD k2 (hb2.mono (by omega)) (by omega) hx hD2
end
/-- what is new in a heap -/
def nwH (H H' : Hp) : Hp := fun a => match H a with | none => H' a | some _ => none
theorem nwH_of {H H' : Hp} {a : Addr} {o : HO} (f : H a = none) (h : H' a = some o) : nwH H H' a = some o := by
  unfold nwH
  rw [f]
  exact h
theorem nw_d2 {H H1 H2 : Hp} {b t : Addr} (hb : H b ≠ none) (ht : H t = none → H1 t = none) (k : ∀ a o, H a = none → H1 a = some o → H2 a = some o) : Same (nwH H H1) (d2 H2 b t) := fun a o e => by
  unfold nwH at e
  split at e
  · rename_i f
    refine d2_of (fun z => hb (by rw [← z]; exact f)) (fun z => ?_) (k a o f e)
    subst z
    rw [ht f] at e
    cases e
  · cases e
def fitB : Nat → PyData → Bool
  | 0, .list _ => false
  | 0, .tuple _ => false
  | n + 1, .list ds => decide (ds.length ≤ 4000) && ds.all (fitB n)
  | n + 1, .tuple ds => decide (ds.length ≤ 4000) && ds.all (fitB n)
  | _, .dict _ => false
  | _, _ => true
theorem fit_of : ∀ {n : Nat} {d : PyData}, fitB n d = true → Fit n d := by
  intro n
  induction n with
  | zero =>
    intro d h
    cases d with
    | list ds => cases h
    | tuple ds => cases h
    | dict ds => cases h
    | _ => exact True.intro
  | succ n ih =>
    intro d h
    cases d with
    | list ds =>
      rw [fitB, Bool.and_eq_true] at h
      exact ⟨of_decide_eq_true h.1, fun e he => ih (List.all_eq_true.mp h.2 e he)⟩
    | tuple ds =>
      rw [fitB, Bool.and_eq_true] at h
      exact ⟨of_decide_eq_true h.1, fun e he => ih (List.all_eq_true.mp h.2 e he)⟩
    | dict ds => cases h
    | _ => exact True.intro
theorem fit_up : ∀ {n : Nat} {d : PyData}, Fit n d → Fit (n + 1) d := by
  intro n
  induction n with
  | zero =>
    intro d h
    cases d with
    | list ds => cases h
    | tuple ds => cases h
    | dict ds => cases h
    | _ => exact True.intro
  | succ n ih =>
    intro d h
    cases d with
    | list ds => exact ⟨h.1, fun e he => ih (h.2 e he)⟩
    | tuple ds => exact ⟨h.1, fun e he => ih (h.2 e he)⟩
    | dict ds => cases h
    | _ => exact True.intro
/-- an element of a row -/
def El (B : Nat) (d : PyData) : Prop := Sm B 4 d ∧ Fit 3 d
theorem El.up {B B' : Nat} {d : PyData} (h : El B d) (e : B ≤ B') : El B' d := ⟨h.1.up e (Nat.le_refl _), h.2⟩
theorem el_lit {d : PyData} (h : (d.canLay0 && d.showable && decide (dw d ≤ 2000) && decide (d.depth ≤ 4) && fitB 3 d) = true) : El 2000 d := by
  simp only [Bool.and_eq_true, decide_eq_true_eq] at h
  obtain ⟨⟨⟨⟨h1, h2⟩, h3⟩, h4⟩, h5⟩ := h
  exact ⟨⟨h1, h2, h3, h4⟩, fit_of h5⟩
def Els (K : PySem.W.Frag) (H : Hp) (B : Nat) (es : List (V × PyData)) : Prop := ∀ e ∈ es, Dp K H e.1 e.2 ∧ El B e.2
theorem Els.same {K : PySem.W.Frag} {H H' : Hp} {B : Nat} {es : List (V × PyData)} (h : Els K H B es) (s : Same H H') : Els K H' B es := fun e he => ⟨dp_same s (h e he).1, (h e he).2⟩
theorem Els.up {K : PySem.W.Frag} {H : Hp} {B B' : Nat} {es : List (V × PyData)} (h : Els K H B es) (s : B ≤ B') : Els K H B' es := fun e he => ⟨(h e he).1, (h e he).2.up s⟩
theorem dp_tints {K : PySem.W.Frag} {H : Hp} : ∀ xs : List Int, DpAll K H (xs.map V.int) (xs.map PyData.int)
  | [] => .nil
  | x :: r => .cons (.int x) (dp_tints r)
theorem el_wv {K : PySem.W.Frag} {H : Hp} {b p : Addr} {n : Int} {ys : List V} {v : V} (h : Wv H v) (hp : H p = some (.lst ys)) (hb : BoxAt H b n) : ∃ d, Dp K (d2 H b p) v d ∧ El 2000 d := by
  rcases h with ⟨i, rfl, i0, i1⟩ | ⟨t, xs, rfl, h1, h2, h3⟩
  · exact ⟨.int i, .int i, (sm_int (by omega)).up (by decide) (by decide), True.intro⟩
  · obtain ⟨x, y, z, a1, a2⟩ := hb
    have hd : d2 H b p t = some (.tup (xs.map V.int)) := d2_of (fun z => by rw [z, a1] at h1; cases h1) (fun z => by rw [z, hp] at h1; cases h1) h1
    refine ⟨.tuple (xs.map PyData.int), .tup (SqT.of hd) (dp_tints xs), (Sm.tup (B := 13) (k := 0) (n := 30) (by rw [List.length_map]; exact h3) fun d hd => ?_).up (by decide) (by decide), by rw [List.length_map]; omega, fun e he => ?_⟩
    · obtain ⟨i, hi, rfl⟩ := List.mem_map.mp hd
      exact sm_int (by have := h2 i hi; omega)
    · obtain ⟨i, hi, rfl⟩ := List.mem_map.mp he
      exact True.intro
theorem es_all {K : PySem.W.Frag} {H : Hp} {B : Nat} : ∀ {xs : List V}, (∀ v ∈ xs, ∃ d, Dp K H v d ∧ El B d) → ∃ es : List (V × PyData), xs = es.map (·.1) ∧ Els K H B es
  | [], _ => ⟨[], rfl, fun e he => by cases he⟩
  | x :: r, h => by
    obtain ⟨d, hd⟩ := h x List.mem_cons_self
    obtain ⟨es, e1, e2⟩ := es_all (xs := r) fun v hv => h v (List.mem_cons_of_mem _ hv)
    refine ⟨(x, d) :: es, by rw [e1]; rfl, fun e he => ?_⟩
    rcases List.mem_cons.mp he with z | z
    · rw [z]
      exact hd
    · exact e2 e z
abbrev s__law_things : Stmt := top 37
abbrev N__law_things : List Str := ["_law_box_here", "_law_count", "_law_some", "_law_k"]
abbrev P__law_things : List Str := ["_law_box_here", "_law_count"]
theorem sc__law_things : FnScope N__law_things P__law_things (defScope s__law_things) := ⟨rfl, rfl, rfl, by decide +kernel, rfl, by decide +kernel, by decide +kernel⟩
def spThg (K : PySem.W.Frag) : Sp := fun vs H Q _ => ∃ (b : Addr) (c m : Int), vs = [.ref b, .int m] ∧ BoxAt H b c ∧ c < 800000 ∧ 0 ≤ m ∧ m ≤ 100 ∧ ∀ p es H', H p = none → Keep b H H' → BoxAt H' b (c + 9000) → (es.length : Int) = m → Els K (d2 H' b p) 2000 es → H' p = some (.lst (es.map (·.1))) → Q (.ref p) H'
section
variable {P : Program} {w : World} {K : PySem.W.Frag} {mg : Str → Option Value} {base : Heap}
theorem ok_thg {f f1 f2 : Addr} {fd d1 d2' : FuncData} {k : Nat} (F : Fun K "_law_things" "_law_things" s__law_things f fd) (T : Blt mg) (D__law_take : Df K mg "_law_take" s__law_take P__law_take f1 d1) (D__law_pick : Df K mg "_law_pick" s__law_pick P__law_pick f2 d2') : FnOk P w K mg base CX0 (k + 3) f fd P__law_things (spThg K) := by
  have G__law_pick : FnOk P w K mg base CX0 2 f2 d2' P__law_pick (spPick K) := ok_pick (k := 0) D__law_pick.F T D__law_take
  have nd := sc__law_things.nd
  refine F.ok sc__law_things (fun vs H Q E h => ?_) (fun cdv A outer s H vs Q E hr h => ?_)
  · obtain ⟨b, c, m, rfl, _⟩ := h
    rfl
  · obtain ⟨b, c, m, rfl, hb, hc, m0, m1, q⟩ := h
    refine ⟨_, (pss_cons (ps_set (i := 2) nd rfl (Or.inr rfl) (pe_lst (pa_cons (pe_int) (pa_cons (pe_int) (pa_cons (pe_bl) (pa_cons (pe_bl) (pa_cons (pe_non) (pa_cons (pe_str) (pa_cons (pe_str) (pa_cons (pe_tup pa_nil) (pa_cons (pe_lst pa_nil) (pa_cons (pe_tup (pa_cons (pe_int) pa_nil)) (pa_cons (pe_lst (pa_cons (pe_int) pa_nil)) (pa_cons (pe_tup (pa_cons (pe_int) (pa_cons (pe_int) pa_nil))) (pa_cons (pe_lst (pa_cons (pe_int) (pa_cons (pe_int) pa_nil))) (pa_cons (pe_tup (pa_cons (pe_bl) (pa_cons (pe_int) pa_nil))) (pa_cons (pe_tup (pa_cons (pe_tup (pa_cons (pe_int) (pa_cons (pe_str) pa_nil))) (pa_cons (pe_non) pa_nil))) (pa_cons (pe_lst (pa_cons (pe_lst pa_nil) (pa_cons (pe_tup pa_nil) pa_nil))) pa_nil))))))))))))))))))
      (pss_cons (ps_set (i := 2) nd rfl (Or.inr rfl) (pe_op op_cat (pv 2) (pe_lst (pa_cons (pe_tup (pa_cons (pe_tup (pa_cons (pe_bl) (pa_cons (pe_str) pa_nil))) (pa_cons (pe_non) pa_nil))) (pa_cons (pe_lst (pa_cons (pe_lst (pa_cons (pe_bl) pa_nil)) pa_nil)) (pa_cons (pe_lst (pa_cons (pe_lst (pa_cons (pe_int) pa_nil)) pa_nil)) (pa_cons (pe_tup (pa_cons (pe_tup (pa_cons (pe_tup (pa_cons (pe_int) pa_nil)) pa_nil)) pa_nil)) (pa_cons (pe_tup (pa_cons (pe_tup (pa_cons (pe_tup (pa_cons (pe_bl) pa_nil)) pa_nil)) pa_nil)) pa_nil))))))))
      (pss_one (ps_ret (pe_lc (own := [("_law_k", 3)]) (g := gName 3) (by rfl) nd (pi_range1 (by rfl) T.b_range (pa_cons (pv 1) pa_nil)) (blkOk_by (own := [("_law_k", 3)]) (N := N__law_things) (sc := defScope s__law_things) (by decide +kernel)) (fun _ _ _ _ _ => (pg_name (i := 3) nd rfl (Or.inl rfl))) (fun _ _ _ _ _ => pts_nil) (fun _ _ _ _ _ => (pe_call G__law_pick (hr.mono (by omega)) (by rfl) D__law_pick.g D__law_pick.F.kp D__law_pick.b .nil pass0 (pa_cons (pv 0) (pa_cons (pv 2) pa_nil))))))))), ?_⟩
    walk_at "ev"
    w_cond _1
    walk_at "ev"
    w_cond _2
    walk_at "ev"
    w_cond _3
    walk_at "ev"
    w_cond _4
    walk_at "ev"
    w_cond _5
    walk_at "ev"
    w_cond _6
    walk_at "ev"
    w_cond _7
    walk_at "ev"
    w_cond _8
    walk_at "ev"
    w_cond _9
    walk_at "ev"
    w_cond _10
    walk_at "ev"
    w_cond _11
    walk_at "ev"
    w_cond _12
    walk_at "ev"
    w_cond _13
    walk_at "ev"
    w_cond _14
    walk_at "ev"
    w_cond _15
    walk_at "ev"
    w_cond _16
    walk_at "ev"
    w_cond _17
    walk_at "ev"
    w_cond _18
    walk_at "ev"
    w_cond _19
    walk_at "ev"
    w_cond _20
    walk_at "ev"
    w_cond _21
    walk_at "ev"
    w_cond _22
    walk_at "ev"
    w_cond _23
    walk_at "ev"
    w_cond _24
    walk_at "ev"
    w_cond _25
    walk_at "ev"
    w_cond _26
    have c13 := (sm14.trans (sm15.trans (sm16.trans (sm17.trans (sm18.trans (sm19.trans (sm20.trans (sm21.trans (sm22.trans (sm23.trans (sm24.trans (sm25.trans (sm26))))))))))))) _ _ hq13
    have hz : 16 + 5 ≤ sizeLine := szl (by decide)
    walk_at "ev"
    w_cond _27
    have s1 := sm1
    have s2 := s1.trans sm2
    have s3 := s2.trans sm3
    have s4 := s3.trans sm4
    have s5 := s4.trans sm5
    have s6 := s5.trans sm6
    have s7 := s6.trans sm7
    have s8 := s7.trans sm8
    have s9 := s8.trans sm9
    have s10 := s9.trans sm10
    have s11 := s10.trans sm11
    have s12 := s11.trans sm12
    have s13 := s12.trans sm13
    have s14 := s13.trans sm14
    have s15 := s14.trans sm15
    have s16 := s15.trans sm16
    have s17 := s16.trans sm17
    have s18 := s17.trans sm18
    have s19 := s18.trans sm19
    have s20 := s19.trans sm20
    have s21 := s20.trans sm21
    have s22 := s21.trans sm22
    have s23 := s22.trans sm23
    have s24 := s23.trans sm24
    have s25 := s24.trans sm25
    have s26 := s25.trans sm26
    have s27 := s26.trans sm27
    have e26 := sm27
    have e25 := sm26.trans e26
    have e24 := sm25.trans e25
    have e23 := sm24.trans e24
    have e22 := sm23.trans e23
    have e21 := sm22.trans e22
    have e20 := sm21.trans e21
    have e19 := sm20.trans e20
    have e18 := sm19.trans e19
    have e17 := sm18.trans e18
    have e16 := sm17.trans e17
    have e15 := sm16.trans e16
    have e14 := sm15.trans e15
    have e13 := sm14.trans e14
    have e12 := sm13.trans e13
    have e11 := sm12.trans e12
    have e10 := sm11.trans e11
    have e9 := sm10.trans e10
    have e8 := sm9.trans e9
    have e7 := sm8.trans e8
    have e6 := sm7.trans e7
    have e5 := sm6.trans e6
    have e4 := sm5.trans e5
    have e3 := sm4.trans e4
    have e2 := sm3.trans e3
    have e1 := sm2.trans e2
    have n1 := nwH_of hl1 (e1 _ _ hq1)
    have n2 := nwH_of (s1.free hl2) (e2 _ _ hq2)
    have n3 := nwH_of (s2.free hl3) (e3 _ _ hq3)
    have n4 := nwH_of (s3.free hl4) (e4 _ _ hq4)
    have n5 := nwH_of (s4.free hl5) (e5 _ _ hq5)
    have n6 := nwH_of (s5.free hl6) (e6 _ _ hq6)
    have n7 := nwH_of (s6.free hl7) (e7 _ _ hq7)
    have n8 := nwH_of (s7.free hl8) (e8 _ _ hq8)
    have n9 := nwH_of (s8.free hl9) (e9 _ _ hq9)
    have n10 := nwH_of (s9.free hl10) (e10 _ _ hq10)
    have n11 := nwH_of (s10.free hl11) (e11 _ _ hq11)
    have n12 := nwH_of (s11.free hl12) (e12 _ _ hq12)
    have n14 := nwH_of (s13.free hl14) (e14 _ _ hq14)
    have n15 := nwH_of (s14.free hl15) (e15 _ _ hq15)
    have n16 := nwH_of (s15.free hl16) (e16 _ _ hq16)
    have n17 := nwH_of (s16.free hl17) (e17 _ _ hq17)
    have n18 := nwH_of (s17.free hl18) (e18 _ _ hq18)
    have n19 := nwH_of (s18.free hl19) (e19 _ _ hq19)
    have n20 := nwH_of (s19.free hl20) (e20 _ _ hq20)
    have n21 := nwH_of (s20.free hl21) (e21 _ _ hq21)
    have n22 := nwH_of (s21.free hl22) (e22 _ _ hq22)
    have n23 := nwH_of (s22.free hl23) (e23 _ _ hq23)
    have n24 := nwH_of (s23.free hl24) (e24 _ _ hq24)
    have n25 := nwH_of (s24.free hl25) (e25 _ _ hq25)
    have hall : ∀ v ∈ [V.int 0, V.int 1, V.bl true, V.bl false, V.non, V.str "", V.str "a", V.ref l1, V.ref l2, V.ref l3, V.ref l4, V.ref l5, V.ref l6, V.ref l7, V.ref l9, V.ref l12] ++ [V.ref l15, V.ref l17, V.ref l19, V.ref l22, V.ref l25], ∃ d, Dp K (nwH H H27) v d ∧ El 2000 d := by
      intro v hv
      simp only [List.cons_append, List.nil_append, List.mem_cons, List.not_mem_nil, or_false] at hv
      rcases hv with z | z | z | z | z | z | z | z | z | z | z | z | z | z | z | z | z | z | z | z | z <;> subst z
      · exact ⟨(.int (0)), (.int (0)), el_lit (by decide +kernel)⟩
      · exact ⟨(.int (1)), (.int (1)), el_lit (by decide +kernel)⟩
      · exact ⟨(.bool true), (.bl true), el_lit (by decide +kernel)⟩
      · exact ⟨(.bool false), (.bl false), el_lit (by decide +kernel)⟩
      · exact ⟨.none, .non, el_lit (by decide +kernel)⟩
      · exact ⟨(.str ""), (.str ""), el_lit (by decide +kernel)⟩
      · exact ⟨(.str "a"), (.str "a"), el_lit (by decide +kernel)⟩
      · exact ⟨(.tuple []), (.tup (SqT.of n1) .nil), el_lit (by decide +kernel)⟩
      · exact ⟨(.list []), (.lst (SqL.of n2) .nil), el_lit (by decide +kernel)⟩
      · exact ⟨(.tuple [(.int (0))]), (.tup (SqT.of n3) (.cons (.int (0)) .nil)), el_lit (by decide +kernel)⟩
      · exact ⟨(.list [(.int (0))]), (.lst (SqL.of n4) (.cons (.int (0)) .nil)), el_lit (by decide +kernel)⟩
      · exact ⟨(.tuple [(.int (1)), (.int (2))]), (.tup (SqT.of n5) (.cons (.int (1)) (.cons (.int (2)) .nil))), el_lit (by decide +kernel)⟩
      · exact ⟨(.list [(.int (1)), (.int (2))]), (.lst (SqL.of n6) (.cons (.int (1)) (.cons (.int (2)) .nil))), el_lit (by decide +kernel)⟩
      · exact ⟨(.tuple [(.bool true), (.int (2))]), (.tup (SqT.of n7) (.cons (.bl true) (.cons (.int (2)) .nil))), el_lit (by decide +kernel)⟩
      · exact ⟨(.tuple [(.tuple [(.int (0)), (.str "a")]), .none]), (.tup (SqT.of n9) (.cons (.tup (SqT.of n8) (.cons (.int (0)) (.cons (.str "a") .nil))) (.cons .non .nil))), el_lit (by decide +kernel)⟩
      · exact ⟨(.list [(.list []), (.tuple [])]), (.lst (SqL.of n12) (.cons (.lst (SqL.of n10) .nil) (.cons (.tup (SqT.of n11) .nil) .nil))), el_lit (by decide +kernel)⟩
      · exact ⟨(.tuple [(.tuple [(.bool false), (.str "a")]), .none]), (.tup (SqT.of n15) (.cons (.tup (SqT.of n14) (.cons (.bl false) (.cons (.str "a") .nil))) (.cons .non .nil))), el_lit (by decide +kernel)⟩
      · exact ⟨(.list [(.list [(.bool true)])]), (.lst (SqL.of n17) (.cons (.lst (SqL.of n16) (.cons (.bl true) .nil)) .nil)), el_lit (by decide +kernel)⟩
      · exact ⟨(.list [(.list [(.int (1))])]), (.lst (SqL.of n19) (.cons (.lst (SqL.of n18) (.cons (.int (1)) .nil)) .nil)), el_lit (by decide +kernel)⟩
      · exact ⟨(.tuple [(.tuple [(.tuple [(.int (0))])])]), (.tup (SqT.of n22) (.cons (.tup (SqT.of n21) (.cons (.tup (SqT.of n20) (.cons (.int (0)) .nil)) .nil)) .nil)), el_lit (by decide +kernel)⟩
      · exact ⟨(.tuple [(.tuple [(.tuple [(.bool false)])])]), (.tup (SqT.of n25) (.cons (.tup (SqT.of n24) (.cons (.tup (SqT.of n23) (.cons (.bl false) .nil)) .nil)) .nil)), el_lit (by decide +kernel)⟩
    clear n1 hq1 n2 hq2 n3 hq3 n4 hq4 n5 hq5 n6 hq6 n7 hq7 n8 hq8 n9 hq9 n10 hq10 n11 hq11 n12 hq12 n14 hq14 n15 hq15 n16 hq16 n17 hq17 n18 hq18 n19 hq19 n20 hq20 n21 hq21 n22 hq22 n23 hq23 n24 hq24 n25 hq25
    generalize hX : [V.int 0, V.int 1, V.bl true, V.bl false, V.non, V.str "", V.str "a", V.ref l1, V.ref l2, V.ref l3, V.ref l4, V.ref l5, V.ref l6, V.ref l7, V.ref l9, V.ref l12] ++ [V.ref l15, V.ref l17, V.ref l19, V.ref l22, V.ref l25] = X at *
    have hXl : X.length = 21 := by rw [← hX]; rfl
    clear hX
    have hbe := hb.same s27
    have hb0 : H b ≠ none := by
      obtain ⟨x, y, z, a1, a2⟩ := hb
      rw [a1]
      nofun
    have nXb := (hb.same s26).ne hl27
    walk_at "ev"
    intro D hD
    have nDb := hbe.ne hD
    have hD0 : H D = none := s27.free hD
    have nXD : l27 ≠ D := ne_of_none hq27 hD
    refine lc_range (lo := 0) (n := _) (fun i H' => Hold (Keep b H27 H' ∧ BoxAt H' b (c + 90 * (i : Int)) ∧ ∃ xs : List V, xs.length = i ∧ (∀ v ∈ xs, v ∈ X) ∧ H' D = some (.lst xs))) (.mk ⟨keepS (same_new hD), (hbe.upd nDb).mono (by omega), [], rfl, (fun v hv => by cases hv), upd_same⟩) ?_ ?_
    · intro i H2' hi hP
      obtain ⟨k2, hb2, xs, hxl, hx, hD2⟩ := hP.un
      have hi100 : i < 100 := by omega
      have hLX := SqL.of (K := K) (k2 _ _ nXb hq27)
      have x1 : (0 : Int) < (X.length : Int) := by omega
      have x2 : (X.length : Int) < 1048576 := by omega
      walk_at "ev"
      intro v H3' hv k3 hb3
      have hD3 := k3 _ _ nDb hD2
      refine ⟨_, hD3, szm (by omega), .mk ⟨keep_fresh (k2.trans k3) hD, (hb3.upd nDb).mono (by omega), xs ++ [v], by rw [List.length_append, hxl]; rfl, fun y hy => ?_, upd_same⟩⟩
      rcases List.mem_append.mp hy with z | z
      · exact hx y z
      · rw [List.mem_singleton.mp z]
        exact hv
    · intro H2' hP
      obtain ⟨k2, hb2, xs, hxl, hx, hD2⟩ := hP.un
      obtain ⟨es, ees, hes⟩ := es_all (B := 2000) fun v hv => hall v (hx v hv)
      subst ees
      rw [List.length_map] at hxl
      refine q D es H2' hD0 ((keepS s27).trans k2) (hb2.mono (by omega)) (by omega) (hes.same (nw_d2 hb0 (fun _ => hD) fun a o ha e => k2 a o (fun z => hb0 (by rw [← z]; exact ha)) e)) hD2
end
theorem cut_to {xs : List V} {i : Nat} (h : i ≤ xs.length) : cutV xs none (some (i : Int)) = xs.take i := by
  have e : cutV xs none (some (i : Int)) = (xs.drop 0).take (HT.sIx xs.length xs.length (some (i : Int)) - 0) := rfl
  have e2 : HT.sIx xs.length xs.length (some (i : Int)) = i := by
    unfold HT.sIx
    simp
    split <;> omega
  rw [e, e2]
  rfl
theorem cut_from {xs : List V} {i : Nat} (h : i ≤ xs.length) : cutV xs (some (i : Int)) none = xs.drop i := by
  have e : cutV xs (some (i : Int)) none = (xs.drop (HT.sIx xs.length 0 (some (i : Int)))).take (xs.length - HT.sIx xs.length 0 (some (i : Int))) := rfl
  have e2 : HT.sIx xs.length 0 (some (i : Int)) = i := by
    unfold HT.sIx
    simp
    split <;> omega
  rw [e, e2]
  exact List.take_of_length_le (by rw [List.length_drop]; exact Nat.le_refl _)
theorem el_conv {B : Nat} {ds : List PyData} : (El B (.list ds) → El (B + 10) (.tuple ds)) ∧ (El B (.tuple ds) → El (B + 10) (.list ds)) := by
  refine ⟨fun h => ?_, fun h => ?_⟩
  · obtain ⟨⟨a, b, c, e⟩, f⟩ := h
    rw [PyData.canLay0] at a
    rw [PyData.showable] at b
    rw [dw] at c
    rw [PyData.depth] at e
    exact ⟨⟨by rw [PyData.canLay0]; exact a, by rw [PyData.showable]; exact b, by rw [dw]; omega, by rw [PyData.depth]; omega⟩, f⟩
  · obtain ⟨⟨a, b, c, e⟩, f⟩ := h
    rw [PyData.canLay0] at a
    rw [PyData.showable] at b
    rw [dw] at c
    rw [PyData.depth] at e
    exact ⟨⟨by rw [PyData.canLay0]; exact a, by rw [PyData.showable]; exact b, by rw [dw]; omega, by rw [PyData.depth]; omega⟩, f⟩
theorem ix_of {n i : Nat} (h : i < n) : ixN n (i : Int) = some i := ixn_of h rfl
abbrev s__law_bent : Stmt := top 38
abbrev N__law_bent : List Str := ["_law_box_here", "_law_row_here", "_law_found", "_law_way", "_law_spot", "_law_odd"]
abbrev P__law_bent : List Str := ["_law_box_here", "_law_row_here"]
theorem sc__law_bent : FnScope N__law_bent P__law_bent (defScope s__law_bent) := ⟨rfl, rfl, rfl, by decide +kernel, rfl, by decide +kernel, by decide +kernel⟩
section
variable {P : Program} {w : World} {K : PySem.W.Frag} {mg : Str → Option Value} {base : Heap}
theorem bnt_tl {f f2 : Addr} {d2' : FuncData} {A : Around} {outer : List Env} {s : Shared} {H : Hp} {Q : VK} {E : XK} {cdv : Value} {k : Nat} (T : Blt mg) (hr : Room (k + 2) (A.deeper (PyProof.Rows.envOfC "_law_bent" (defScope s__law_bent) s.heap.objs.size f cdv)))
    (D__law_pick : Df K mg "_law_pick" s__law_pick P__law_pick f2 d2') (G__law_pick : FnOk P w K mg base CX0 2 f2 d2' P__law_pick (spPick K)) :
    ∃ tl, PSs (cxOf CX0 P w K mg base N__law_bent "_law_bent" (defScope s__law_bent) f cdv A outer s H E).nox ((defBody s__law_bent).drop 8) tl ∧
      ∀ (b a l lo : Addr) (n : Int) (i : Nat) (xs ys X : List V) (v0 : V) (H3 : Hp) (x3 : Option V), BoxAt H3 b n → n < 1000000 → H3 a = some (.lst ys) → atI ys 0 = some v0 → H3 l = some (.lst xs) → i < xs.length → H3 lo = some (.lst X) → 1 ≤ X.length → X.length ≤ 100 → l ≠ b →
        (∀ v H', (v ∈ X ∨ v = v0) → Keep b H3 H' → BoxAt H' b (n + 1) → Q (.ref l) (upd H' l (.lst (xs.set i v)))) →
        tl { nx := fun _ H' => Q .non H', rt := Q } [some (.ref b), some (.ref a), some (.ref l), x3, some (.int (i : Int)), some (.ref lo)] H3 := by
  have nd := sc__law_bent.nd
  refine ⟨_, (pss_cons (ps_asg (pe_call G__law_pick (hr.mono (by omega)) (by rfl) D__law_pick.g D__law_pick.F.kp D__law_pick.b .nil pass0 (pa_cons (pv 0) (pa_cons (pe_op op_cat (pv 5) (pe_op op_rep (pe_lst (pa_cons (pe_ix (r := rIxL K) ix_list (pv 1) (pe_int) (fun _ _ => rfl)) pa_nil)) (pe_int))) pa_nil))) (pg_sub (pv 2) (pv 4) set_list))
      (pss_one (ps_ret (pv 2)))), ?_⟩
  intro b a l lo n i xs ys X v0 H3 x3 hb hn ha hat hl hi hlo X1 X2 nlb q
  have hLa := SqL.of (K := K) ha
  walk_at "ev"
  w_cond _4
  have z9 : 1 * 9 ≤ sizeLine := szl (by decide)
  walk_at "ev"
  w_cond _5
  have hlo5 := (sm4.trans sm5) _ _ hlo
  have z10 : X.length + 9 ≤ sizeLine := szl (by omega)
  walk_at "ev"
  w_cond _6
  have s36 := sm4.trans (sm5.trans sm6)
  have hb6 := hb.same s36
  have n6b : l6 ≠ b := (hb.same (sm4.trans sm5)).ne hl6
  have hYm : ∀ v ∈ X ++ (List.replicate (Int.toNat 9) [v0]).flatten, v ∈ X ∨ v = v0 := fun v hv => by
    rcases List.mem_append.mp hv with z | z
    · exact .inl z
    · obtain ⟨u, hu, hv⟩ := List.mem_flatten.mp z
      rw [(List.mem_replicate.mp hu).2] at hv
      exact .inr (List.mem_singleton.mp hv)
  have hYl : (X ++ (List.replicate (Int.toNat 9) [v0]).flatten).length = X.length + 9 := by rw [List.length_append]; rfl
  generalize X ++ (List.replicate (Int.toNat 9) [v0]).flatten = Y at *
  have hL6 := SqL.of (K := K) hq6
  have y1 : (0 : Int) < (Y.length : Int) := by omega
  have y2 : (Y.length : Int) < 1048576 := by omega
  walk_at "ev"
  intro v H7 hv k7 hb7
  have hl7 := k7 _ _ nlb (s36 _ _ hl)
  have hix := ix_of hi
  walk_at "ev"
  exact q v H7 (hYm v hv) ((keepS s36).trans k7) hb7
def spBnt (K : PySem.W.Frag) : Sp := fun vs H Q _ => ∃ (b t a : Addr) (n : Int) (es : List (V × PyData)) (ts : List V), vs = [.ref b, .ref a] ∧ BoxAt H b n ∧ n < 800000 ∧ H t = some (.lst ts) ∧ t ≠ b ∧ a ≠ b ∧ H a = some (.lst (es.map (·.1))) ∧ 1 ≤ es.length ∧ es.length ≤ 61 ∧ Els K (d2 H b t) 2000 es ∧
  ∀ (p : Addr) (es' : List (V × PyData)) (H' : Hp), Keep b H H' → BoxAt H' b (n + 8) → H p = none → es'.length ≤ es.length + 1 → Els K (d2 H' b t) 2010 es' → H' p = some (.lst (es'.map (·.1))) → Q (.ref p) H'
theorem ok_bnt {f f1 f2 : Addr} {fd d1 d2' : FuncData} {k : Nat} (F : Fun K "_law_bent" "_law_bent" s__law_bent f fd) (T : Blt mg) (D__law_take : Df K mg "_law_take" s__law_take P__law_take f1 d1) (D__law_pick : Df K mg "_law_pick" s__law_pick P__law_pick f2 d2') : FnOk P w K mg base CX0 (k + 3) f fd P__law_bent (spBnt K) := by
  have G__law_take : FnOk P w K mg base CX0 1 f1 d1 P__law_take spTake := ok_take D__law_take.F
  have G__law_pick : FnOk P w K mg base CX0 2 f2 d2' P__law_pick (spPick K) := ok_pick (k := 0) D__law_pick.F T D__law_take
  have nd := sc__law_bent.nd
  refine F.ok sc__law_bent (fun vs H Q E h => ?_) (fun cdv A outer s H vs Q E hr h => ?_)
  · obtain ⟨b, t, a, n, es, ts, rfl, _⟩ := h
    rfl
  · obtain ⟨b, t, a, n, es, ts, rfl, hb, hn, ht, htb, hab, ha, hpos, hel, hes, q⟩ := h
    obtain ⟨tl, htl, fin⟩ := bnt_tl (P := P) (w := w) (base := base) (outer := outer) (H := H) (Q := Q) (E := E) T hr D__law_pick G__law_pick
    refine ⟨_, (pss_cons (ps_par3 (i := 2) (j := 3) (l := 4) (by rfl) nd rfl rfl rfl (by decide) (by decide) (by decide) rfl rfl rfl (pa_cons (pe_callTy call_list_of (by rfl) T.b_list (by decide +kernel) (pa_cons (pv 1) pa_nil)) (pa_cons (pe_call G__law_take (hr.mono (by omega)) (by rfl) D__law_take.g D__law_take.F.kp D__law_take.b .nil pass0 (pa_cons (pv 0) (pa_cons (pe_int) pa_nil))) (pa_cons (pe_call G__law_take (hr.mono (by omega)) (by rfl) D__law_take.g D__law_take.F.kp D__law_take.b .nil pass0 (pa_cons (pv 0) (pa_cons (pe_callB (r := rLenQ K) call_len_seq (by rfl) T.b_len (by decide +kernel) (pa_cons (pv 1) pa_nil)) pa_nil))) pa_nil))) (by rfl))
      (pss_cons (ps_set (i := 5) nd rfl (Or.inl rfl) (pe_lst (pa_cons (pe_int) (pa_cons (pe_int) (pa_cons (pe_bl) (pa_cons (pe_bl) (pa_cons (pe_non) (pa_cons (pe_str) (pa_cons (pe_tup pa_nil) (pa_cons (pe_lst pa_nil) (pa_cons (pe_tup (pa_cons (pe_int) pa_nil)) (pa_cons (pe_lst (pa_cons (pe_int) pa_nil)) (pa_cons (pe_tup (pa_cons (pe_int) (pa_cons (pe_int) pa_nil))) (pa_cons (pe_lst (pa_cons (pe_int) (pa_cons (pe_int) pa_nil))) (pa_cons (pe_tup (pa_cons (pe_bl) (pa_cons (pe_int) pa_nil))) (pa_cons (pe_tup (pa_cons (pe_tup (pa_cons (pe_int) (pa_cons (pe_str) pa_nil))) (pa_cons (pe_non) pa_nil))) pa_nil))))))))))))))))
      (pss_cons (ps_set (i := 5) nd rfl (Or.inl rfl) (pe_op op_cat (pv 5) (pe_lst (pa_cons (pe_tup (pa_cons (pe_tup (pa_cons (pe_bl) (pa_cons (pe_str) pa_nil))) (pa_cons (pe_non) pa_nil))) (pa_cons (pe_lst (pa_cons (pe_lst (pa_cons (pe_bl) pa_nil)) pa_nil)) (pa_cons (pe_lst (pa_cons (pe_lst (pa_cons (pe_int) pa_nil)) pa_nil)) (pa_cons (pe_tup (pa_cons (pe_tup (pa_cons (pe_tup (pa_cons (pe_int) pa_nil)) pa_nil)) pa_nil)) (pa_cons (pe_tup (pa_cons (pe_tup (pa_cons (pe_tup (pa_cons (pe_bl) pa_nil)) pa_nil)) pa_nil)) pa_nil))))))))
      (pss_cons (ps_if (pt_cmpR op_eq (pv 3) (pe_int) (nomark _)) (pss_one (ps_ret (pe_op op_cat (pe_slice (r := rSlL K) sl_list (pv 2) po_none (po_some (pv 4))) (pe_slice (r := rSlL K) sl_list (pv 2) (po_some (pe_op op_add (pv 4) (pe_int))) po_none)))) pss_nil)
      (pss_cons (ps_if (pt_cmpR op_eq (pv 3) (pe_int) (nomark _)) (pss_one (ps_ret (pe_op op_cat (pe_op op_cat (pe_slice (r := rSlL K) sl_list (pv 2) po_none (po_some (pv 4))) (pe_lst (pa_cons (pe_call G__law_pick (hr.mono (by omega)) (by rfl) D__law_pick.g D__law_pick.F.kp D__law_pick.b .nil pass0 (pa_cons (pv 0) (pa_cons (pv 5) pa_nil))) pa_nil))) (pe_slice (r := rSlL K) sl_list (pv 2) (po_some (pv 4)) po_none)))) pss_nil)
      (pss_cons (ps_if (pt_cmpR op_eq (pv 3) (pe_int) (nomark _)) (pss_one (ps_set (i := 4) nd rfl (Or.inl rfl) (pe_op op_fdiv (pe_callB (r := rLenQ K) call_len_seq (by rfl) T.b_len (by decide +kernel) (pa_cons (pv 1) pa_nil)) (pe_int)))) pss_nil)
      (pss_cons (ps_if (PW.pt (pw_and (pt_cmpR op_eq (pv 3) (pe_int) (nomark _)) (pw_and1 (pt_val (pe_callB (r := rIsiT K) call_isiT (by rfl) T.b_isinstance (by decide +kernel) (pa_cons (pe_ix (r := rIxL K) ix_list (pv 2) (pv 4) (fun _ _ => rfl)) (pa_cons (pe_tup (pa_cons (pe_bltn (v := .ty "tuple") (by rfl) T.b_tuple (by decide +kernel) rfl) (pa_cons (pe_bltn (v := .ty "list") (by rfl) T.b_list (by decide +kernel) rfl) pa_nil))) pa_nil))))))) (pss_cons (ps_asg (pe_ifExp (pt_val (pe_callB (r := rIsi K) call_isi (by rfl) T.b_isinstance (by decide +kernel) (pa_cons (pe_ix (r := rIxL K) ix_list (pv 2) (pv 4) (fun _ _ => rfl)) (pa_cons (pe_bltn (v := .ty "tuple") (by rfl) T.b_tuple (by decide +kernel) rfl) pa_nil)))) (pe_callTy call_list_of (by rfl) T.b_list (by decide +kernel) (pa_cons (pe_ix (r := rIxL K) ix_list (pv 2) (pv 4) (fun _ _ => rfl)) pa_nil)) (pe_callTy call_tuple_of (by rfl) T.b_tuple (by decide +kernel) (pa_cons (pe_ix (r := rIxL K) ix_list (pv 2) (pv 4) (fun _ _ => rfl)) pa_nil))) (pg_sub (pv 2) (pv 4) set_list))
      (pss_one (ps_ret (pv 2)))) pss_nil)
      (pss_cons (ps_if (PW.pt (pw_and (pt_cmpR op_eq (pv 3) (pe_int) (nomark _)) (pw_and1 (pt_cmpR (r := rInTD K) (op_inTD (du65 hr)) (pe_ix (r := rIxL K) ix_list (pv 2) (pv 4) (fun _ _ => rfl)) (pe_tup (pa_cons (pe_int) (pa_cons (pe_int) pa_nil))) (by rfl))))) (pss_cons (ps_asg (pe_notT (pe_ix (r := rIxL K) ix_list (pv 2) (pv 4) (fun _ _ => rfl))) (pg_sub (pv 2) (pv 4) set_list))
      (pss_one (ps_ret (pv 2)))) pss_nil)
      htl)))))))), ?_⟩
    have hL := SqL.of (K := K) ha
    have hlen : ((es.map (·.1)).length : Int) = es.length := by rw [List.length_map]
    walk_at "ev"
    w_cond _1
    have hb1 := hb.same sm1
    have hL1 := sm1.seq hL
    have n1b : l1 ≠ b := hb.ne hl1
    have n1t : l1 ≠ t := (ne_of_none ht hl1).symm
    have n1a : l1 ≠ a := (ne_of_none ha hl1).symm
    walk_at "ev"
    intro wy H2 w0 w1 k2 hb2
    have hL2 := SqL.of (K := K) (k2 _ _ hab (sm1 _ _ ha))
    walk_at "ev"
    intro at' H3 r0 r1 k3 hb3
    have k13 : Keep b H H3 := (keepS sm1).trans (k2.trans k3)
    have hp3 := k3 _ _ n1b (k2 _ _ n1b hq1)
    have ha3 := k13 _ _ hab ha
    have ht3 := k13 _ _ htb ht
    have hb30 : H3 b ≠ none := by
      obtain ⟨x, y, z, a1, a2⟩ := hb3
      rw [a1]
      nofun
    have ht30 : H3 t ≠ none := by
      rw [ht3]
      nofun
    obtain ⟨i, rfl⟩ := Int.eq_ofNat_of_zero_le r0
    have hil : i < es.length := by rw [List.length_map] at r1; omega
    obtain ⟨⟨ev, ed⟩, hei⟩ : ∃ e, es[i]? = some e := ⟨_, List.getElem?_eq_getElem hil⟩
    have hem : (ev, ed) ∈ es := List.mem_of_getElem? hei
    have hat : atI (es.map (·.1)) ((i : Nat) : Int) = some ev := at_of (j := i) rfl (by rw [List.getElem?_map, hei]; rfl)
    have hix : ixN (es.map (·.1)).length ((i : Nat) : Int) = some i := ixn_of (by rw [List.length_map]; exact hil) rfl
    obtain ⟨⟨v0, dv0⟩, he0⟩ : ∃ e, es[0]? = some e := ⟨_, List.getElem?_eq_getElem (by omega)⟩
    have hem0 : (v0, dv0) ∈ es := List.mem_of_getElem? he0
    have hat0 : atI (es.map (·.1)) 0 = some v0 := at_of (j := 0) rfl (by rw [List.getElem?_map, he0]; rfl)
    walk_at "ev"
    w_cond _4
    walk_at "ev"
    w_cond _5
    walk_at "ev"
    w_cond _6
    walk_at "ev"
    w_cond _7
    walk_at "ev"
    w_cond _8
    walk_at "ev"
    w_cond _9
    walk_at "ev"
    w_cond _10
    walk_at "ev"
    w_cond _11
    walk_at "ev"
    w_cond _12
    walk_at "ev"
    w_cond _13
    walk_at "ev"
    w_cond _14
    walk_at "ev"
    w_cond _15
    walk_at "ev"
    w_cond _16
    walk_at "ev"
    w_cond _17
    walk_at "ev"
    w_cond _18
    walk_at "ev"
    w_cond _19
    walk_at "ev"
    w_cond _20
    walk_at "ev"
    w_cond _21
    walk_at "ev"
    w_cond _22
    walk_at "ev"
    w_cond _23
    walk_at "ev"
    w_cond _24
    walk_at "ev"
    w_cond _25
    walk_at "ev"
    w_cond _26
    have c13 := (sm14.trans (sm15.trans (sm16.trans (sm17.trans (sm18.trans (sm19.trans (sm20.trans (sm21.trans (sm22.trans (sm23.trans (sm24.trans (sm25.trans (sm26))))))))))))) _ _ hq13
    have hz : 14 + 5 ≤ sizeLine := szl (by decide)
    walk_at "ev"
    w_cond _27
    have s4 := sm4
    have s5 := s4.trans sm5
    have s6 := s5.trans sm6
    have s7 := s6.trans sm7
    have s8 := s7.trans sm8
    have s9 := s8.trans sm9
    have s10 := s9.trans sm10
    have s11 := s10.trans sm11
    have s12 := s11.trans sm12
    have s13 := s12.trans sm13
    have s14 := s13.trans sm14
    have s15 := s14.trans sm15
    have s16 := s15.trans sm16
    have s17 := s16.trans sm17
    have s18 := s17.trans sm18
    have s19 := s18.trans sm19
    have s20 := s19.trans sm20
    have s21 := s20.trans sm21
    have s22 := s21.trans sm22
    have s23 := s22.trans sm23
    have s24 := s23.trans sm24
    have s25 := s24.trans sm25
    have s26 := s25.trans sm26
    have s27 := s26.trans sm27
    have e26 := sm27
    have e25 := sm26.trans e26
    have e24 := sm25.trans e25
    have e23 := sm24.trans e24
    have e22 := sm23.trans e23
    have e21 := sm22.trans e22
    have e20 := sm21.trans e21
    have e19 := sm20.trans e20
    have e18 := sm19.trans e19
    have e17 := sm18.trans e18
    have e16 := sm17.trans e17
    have e15 := sm16.trans e16
    have e14 := sm15.trans e15
    have e13 := sm14.trans e14
    have e12 := sm13.trans e13
    have e11 := sm12.trans e12
    have e10 := sm11.trans e11
    have e9 := sm10.trans e10
    have e8 := sm9.trans e9
    have e7 := sm8.trans e8
    have e6 := sm7.trans e7
    have e5 := sm6.trans e6
    have e4 := sm5.trans e5
    have e3 := sm4.trans e4
    have n4 := nwH_of hl4 (e4 _ _ hq4)
    have n5 := nwH_of (s4.free hl5) (e5 _ _ hq5)
    have n6 := nwH_of (s5.free hl6) (e6 _ _ hq6)
    have n7 := nwH_of (s6.free hl7) (e7 _ _ hq7)
    have n8 := nwH_of (s7.free hl8) (e8 _ _ hq8)
    have n9 := nwH_of (s8.free hl9) (e9 _ _ hq9)
    have n10 := nwH_of (s9.free hl10) (e10 _ _ hq10)
    have n11 := nwH_of (s10.free hl11) (e11 _ _ hq11)
    have n12 := nwH_of (s11.free hl12) (e12 _ _ hq12)
    have n14 := nwH_of (s13.free hl14) (e14 _ _ hq14)
    have n15 := nwH_of (s14.free hl15) (e15 _ _ hq15)
    have n16 := nwH_of (s15.free hl16) (e16 _ _ hq16)
    have n17 := nwH_of (s16.free hl17) (e17 _ _ hq17)
    have n18 := nwH_of (s17.free hl18) (e18 _ _ hq18)
    have n19 := nwH_of (s18.free hl19) (e19 _ _ hq19)
    have n20 := nwH_of (s19.free hl20) (e20 _ _ hq20)
    have n21 := nwH_of (s20.free hl21) (e21 _ _ hq21)
    have n22 := nwH_of (s21.free hl22) (e22 _ _ hq22)
    have n23 := nwH_of (s22.free hl23) (e23 _ _ hq23)
    have n24 := nwH_of (s23.free hl24) (e24 _ _ hq24)
    have n25 := nwH_of (s24.free hl25) (e25 _ _ hq25)
    have hall : ∀ v ∈ [V.int 0, V.int 1, V.bl true, V.bl false, V.non, V.str "a", V.ref l4, V.ref l5, V.ref l6, V.ref l7, V.ref l8, V.ref l9, V.ref l10, V.ref l12] ++ [V.ref l15, V.ref l17, V.ref l19, V.ref l22, V.ref l25], ∃ d, Dp K (nwH H3 H27) v d ∧ El 2000 d := by
      intro v hv
      simp only [List.cons_append, List.nil_append, List.mem_cons, List.not_mem_nil, or_false] at hv
      rcases hv with z | z | z | z | z | z | z | z | z | z | z | z | z | z | z | z | z | z | z <;> subst z
      · exact ⟨(.int (0)), (.int (0)), el_lit (by decide +kernel)⟩
      · exact ⟨(.int (1)), (.int (1)), el_lit (by decide +kernel)⟩
      · exact ⟨(.bool true), (.bl true), el_lit (by decide +kernel)⟩
      · exact ⟨(.bool false), (.bl false), el_lit (by decide +kernel)⟩
      · exact ⟨.none, .non, el_lit (by decide +kernel)⟩
      · exact ⟨(.str "a"), (.str "a"), el_lit (by decide +kernel)⟩
      · exact ⟨(.tuple []), (.tup (SqT.of n4) .nil), el_lit (by decide +kernel)⟩
      · exact ⟨(.list []), (.lst (SqL.of n5) .nil), el_lit (by decide +kernel)⟩
      · exact ⟨(.tuple [(.int (0))]), (.tup (SqT.of n6) (.cons (.int (0)) .nil)), el_lit (by decide +kernel)⟩
      · exact ⟨(.list [(.int (0))]), (.lst (SqL.of n7) (.cons (.int (0)) .nil)), el_lit (by decide +kernel)⟩
      · exact ⟨(.tuple [(.int (1)), (.int (2))]), (.tup (SqT.of n8) (.cons (.int (1)) (.cons (.int (2)) .nil))), el_lit (by decide +kernel)⟩
      · exact ⟨(.list [(.int (1)), (.int (2))]), (.lst (SqL.of n9) (.cons (.int (1)) (.cons (.int (2)) .nil))), el_lit (by decide +kernel)⟩
      · exact ⟨(.tuple [(.bool true), (.int (2))]), (.tup (SqT.of n10) (.cons (.bl true) (.cons (.int (2)) .nil))), el_lit (by decide +kernel)⟩
      · exact ⟨(.tuple [(.tuple [(.int (0)), (.str "a")]), .none]), (.tup (SqT.of n12) (.cons (.tup (SqT.of n11) (.cons (.int (0)) (.cons (.str "a") .nil))) (.cons .non .nil))), el_lit (by decide +kernel)⟩
      · exact ⟨(.tuple [(.tuple [(.bool false), (.str "a")]), .none]), (.tup (SqT.of n15) (.cons (.tup (SqT.of n14) (.cons (.bl false) (.cons (.str "a") .nil))) (.cons .non .nil))), el_lit (by decide +kernel)⟩
      · exact ⟨(.list [(.list [(.bool true)])]), (.lst (SqL.of n17) (.cons (.lst (SqL.of n16) (.cons (.bl true) .nil)) .nil)), el_lit (by decide +kernel)⟩
      · exact ⟨(.list [(.list [(.int (1))])]), (.lst (SqL.of n19) (.cons (.lst (SqL.of n18) (.cons (.int (1)) .nil)) .nil)), el_lit (by decide +kernel)⟩
      · exact ⟨(.tuple [(.tuple [(.tuple [(.int (0))])])]), (.tup (SqT.of n22) (.cons (.tup (SqT.of n21) (.cons (.tup (SqT.of n20) (.cons (.int (0)) .nil)) .nil)) .nil)), el_lit (by decide +kernel)⟩
      · exact ⟨(.tuple [(.tuple [(.tuple [(.bool false)])])]), (.tup (SqT.of n25) (.cons (.tup (SqT.of n24) (.cons (.tup (SqT.of n23) (.cons (.bl false) .nil)) .nil)) .nil)), el_lit (by decide +kernel)⟩
    clear n4 hq4 n5 hq5 n6 hq6 n7 hq7 n8 hq8 n9 hq9 n10 hq10 n11 hq11 n12 hq12 n14 hq14 n15 hq15 n16 hq16 n17 hq17 n18 hq18 n19 hq19 n20 hq20 n21 hq21 n22 hq22 n23 hq23 n24 hq24 n25 hq25
    have fX : H3 l27 = none := s26.free hl27
    generalize hX : [V.int 0, V.int 1, V.bl true, V.bl false, V.non, V.str "a", V.ref l4, V.ref l5, V.ref l6, V.ref l7, V.ref l8, V.ref l9, V.ref l10, V.ref l12] ++ [V.ref l15, V.ref l17, V.ref l19, V.ref l22, V.ref l25] = X at *
    have hXl : X.length = 19 := by rw [← hX]; rfl
    clear hX
    clear s4 s5 s6 s7 s8 s9 s10 s11 s12 s13 s14 s15 s16 s17 s18 s19 s20 s21 s22 s23 s24 s25 s26 s27 e4 e5 e6 e7 e8 e9 e10 e11 e12 e13 e14 e15 e16 e17 e18 e19 e20 e21 e22 e23 e24 e25 e26 sm4 hl4 sm5 hl5 sm6 hl6 sm7 hl7 sm8 hl8 sm9 hl9 sm10 hl10 sm11 hl11 sm12 hl12 sm13 hl13 sm14 hl14 sm15 hl15 sm16 hl16 sm17 hl17 sm18 hl18 sm19 hl19 sm20 hl20 sm21 hl21 sm22 hl22 sm23 hl23 sm24 hl24 sm25 hl25 sm26 hl26 sm27 hl27 c13 hq13 hq26
    have hpe := e3 _ _ hp3
    have hae := e3 _ _ ha3
    have hLe := SqL.of (K := K) hpe
    have hLae := SqL.of (K := K) hae
    have hbe := hb3.same e3
    have hLX := SqL.of (K := K) hq27
    have nXb : l27 ≠ b := fun z => by rw [z] at fX; exact hb30 fX
    have n28 : l27 ≠ l1 := fun z => by rw [z, hp3] at fX; cases fX
    have kHe : Keep b H H27 := k13.trans (keepS e3)
    have hold : ∀ Hx : Hp, Keep b H Hx → Els K (d2 Hx b t) 2010 es := fun Hx kx => (hes.same (d2_k kx)).up (by decide)
    have oldX : ∀ (Hx Hy : Hp) (ys : List V) (v : V), Keep b H27 Hx → Hy = upd Hx l1 (.lst ys) → v ∈ X → ∃ d, Dp K (d2 Hy b t) v d ∧ El 2010 d := by
      intro Hx Hy ys v kx ey hv
      obtain ⟨d, hd, hE⟩ := hall v hv
      refine ⟨d, dp_same (nw_d2 hb30 (fun z => absurd z ht30) fun a o fa ea => ?_) hd, hE.up (by decide)⟩
      rw [ey, upd_ne (fun z => by rw [z, hp3] at fa; cases fa)]
      exact kx a o (fun z => hb30 (by rw [← z]; exact fa)) ea
    have oldY : ∀ (Hx : Hp) (v : V), Keep b H27 Hx → v ∈ X → ∃ d, Dp K (d2 Hx b t) v d ∧ El 2010 d := by
      intro Hx v kx hv
      obtain ⟨d, hd, hE⟩ := hall v hv
      exact ⟨d, dp_same (nw_d2 hb30 (fun z => absurd z ht30) fun a o fa ea => kx a o (fun z => hb30 (by rw [← z]; exact fa)) ea) hd, hE.up (by decide)⟩
    have els_set : ∀ (Hx : Hp) (j : Nat) (v : V) (d : PyData), Keep b H Hx → Dp K (d2 Hx b t) v d ∧ El 2010 d → Els K (d2 Hx b t) 2010 (es.set j (v, d)) := by
      intro Hx j v d kx hv e he
      rcases List.mem_or_eq_of_mem_set he with z | z
      · exact hold Hx kx e z
      · rw [z]
        exact hv
    have tail : ∀ (Hz : Hp) (j : Nat) (x3 : Option V), Same H27 Hz → j < es.length → tl { nx := fun _ H' => Q .non H', rt := Q } [some (.ref b), some (.ref a), some (.ref l1), x3, some (.int (j : Int)), some (.ref l27)] Hz := by
      intro Hz j x3 sz hj
      refine fin b a l1 l27 _ j _ _ X v0 Hz x3 (hbe.same sz) (by omega) (sz _ _ hae) hat0 (sz _ _ hpe) (by rw [List.length_map]; exact hj) (sz _ _ hq27) (by omega) (by omega) n1b ?_
      intro v Hx hv kx hbx
      have kx := (keepS sz).trans kx
      have kH : Keep b H (upd Hx l1 (.lst ((es.map (·.1)).set j v))) := keep_fresh (kHe.trans kx) hl1
      obtain ⟨d, hd⟩ : ∃ d, Dp K (d2 (upd Hx l1 (.lst ((es.map (·.1)).set j v))) b t) v d ∧ El 2010 d := by
        rcases hv with z | z
        · exact oldX Hx _ _ v kx rfl z
        · subst z
          exact ⟨dv0, hold _ kH _ hem0⟩
      refine q l1 (es.set j (v, d)) _ kH ((hbx.upd n1b).mono (by omega)) hl1 (by rw [List.length_set]; omega) (els_set _ j v d kH hd) ?_
      rw [upd_same, List.map_set]
    have put : ∀ (Hx : Hp) (v : V) (d : PyData), Keep b H27 Hx → BoxAt Hx b (n + 1 + 1) → Dp K (d2 (upd Hx l1 (.lst ((es.map (·.1)).set i v))) b t) v d ∧ El 2010 d → Q (.ref l1) (upd Hx l1 (.lst ((es.map (·.1)).set i v))) := by
      intro Hx v d kx hbx hd
      have kH : Keep b H (upd Hx l1 (.lst ((es.map (·.1)).set i v))) := keep_fresh (kHe.trans kx) hl1
      refine q l1 (es.set i (v, d)) _ kH ((hbx.upd n1b).mono (by omega)) hl1 (by rw [List.length_set]; omega) (els_set _ i v d kH hd) ?_
      rw [upd_same, List.map_set]
    have hdE : Dp K (d2 H b t) ev ed := (hes _ hem).1
    have hoE : El 2000 ed := (hes _ hem).2
    clear fin
    have wc : wy = 0 ∨ wy = 1 ∨ wy = 2 ∨ wy = 3 ∨ wy = 4 ∨ wy = 5 ∨ wy = 6 := by omega
    rcases wc with z | z | z | z | z | z | z <;> subst z
    · have ec1 : cutV (es.map (·.1)) none (some (i : Int)) = (es.take i).map (·.1) := by rw [cut_to (by rw [List.length_map]; omega), List.map_take]
      have ec2 : cutV (es.map (·.1)) (some ((i : Int) + 1)) none = (es.drop (i + 1)).map (·.1) := by
        rw [List.map_drop]
        exact cut_from (i := i + 1) (by rw [List.length_map]; omega)
      walk_at "ev"
      w_cond _28
      rw [ec1] at hq28
      have hL1' := sm28.seq hLe
      walk_at "ev"
      w_cond _29
      rw [ec2] at hq29
      have hqq := sm29 _ _ hq28
      have hzz : ((es.take i).map (·.1)).length + ((es.drop (i + 1)).map (·.1)).length ≤ sizeLine := szl (by rw [List.length_map, List.length_map, List.length_take, List.length_drop]; omega)
      walk_at "ev"
      w_cond _30
      have sx := sm28.trans (sm29.trans sm30)
      have kx := kHe.trans (keepS sx)
      refine q l30 (es.take i ++ es.drop (i + 1)) _ kx ((hbe.same sx).mono (by omega)) (keep_free kHe (hbe.ne ((sm28.trans sm29).free hl30)) ((sm28.trans sm29).free hl30)) (by rw [List.length_append, List.length_take, List.length_drop]; omega) (fun e he => ?_) (by rw [List.map_append]; exact hq30)
      rcases List.mem_append.mp he with z | z
      · exact hold _ kx e (List.mem_of_mem_take z)
      · exact hold _ kx e (List.mem_of_mem_drop z)
    · have ec1 : cutV (es.map (·.1)) none (some (i : Int)) = (es.take i).map (·.1) := by rw [cut_to (by rw [List.length_map]; omega), List.map_take]
      have ec2 : cutV (es.map (·.1)) (some (i : Int)) none = (es.drop i).map (·.1) := by rw [List.map_drop, cut_from (by rw [List.length_map]; omega)]
      walk_at "ev"
      w_cond _28
      rw [ec1] at hq28
      have hb28 := hbe.same sm28
      have n28b : l28 ≠ b := hbe.ne hl28
      have hL28 := sm28.seq hLX
      have y1 : (0 : Int) < (X.length : Int) := by omega
      have y2 : (X.length : Int) < 1048576 := by omega
      walk_at "ev"
      intro v H29 hv k29 hb29
      walk_at "ev"
      w_cond _30
      have hqq := sm30 _ _ (k29 _ _ n28b hq28)
      have hzz : ((es.take i).map (·.1)).length + 1 ≤ sizeLine := szl (by rw [List.length_map, List.length_take]; omega)
      walk_at "ev"
      w_cond _31
      have k31 : Keep b H27 H31 := (keepS sm28).trans (k29.trans ((keepS sm30).trans (keepS sm31)))
      have hL4' := SqL.of (K := K) (k31 _ _ n1b hpe)
      walk_at "ev"
      w_cond _32
      rw [ec2] at hq32
      have hqq5 := sm32 _ _ hq31
      have hzz5 : ((es.take i).map (·.1) ++ [v]).length + ((es.drop i).map (·.1)).length ≤ sizeLine := szl (by rw [List.length_append, List.length_map, List.length_map, List.length_take, List.length_drop]; show min _ _ + 1 + _ ≤ 60000; omega)
      walk_at "ev"
      w_cond _33
      have ky : Keep b H27 H33 := k31.trans ((keepS sm32).trans (keepS sm33))
      have kx := kHe.trans ky
      obtain ⟨d, hd⟩ := oldY H33 v ky hv
      have sx3 := sm30.trans (sm31.trans sm32)
      have k32 : Keep b H H32 := kHe.trans (k31.trans (keepS sm32))
      have n33b : l33 ≠ b := (hb29.same sx3).ne hl33
      refine q l33 (es.take i ++ [(v, d)] ++ es.drop i) _ kx (((hb29.same sx3).same sm33).mono (by omega)) (keep_free k32 n33b hl33) (by rw [List.length_append, List.length_append, List.length_take, List.length_drop]; show min _ _ + 1 + _ ≤ _; omega) (fun e he => ?_) (by rw [List.map_append, List.map_append]; exact hq33)
      rcases List.mem_append.mp he with z | z
      · rcases List.mem_append.mp z with z | z
        · exact hold _ kx e (List.mem_of_mem_take z)
        · rw [List.mem_singleton.mp z]
          exact hd
      · exact hold _ kx e (List.mem_of_mem_drop z)
    · walk_at "ev"
      refine iteFe (by decide) ?_
      walk_at "ev"
      have tt := tail _ (es.length / 2) (some (.int 2)) (fun _ _ e => e) (by omega)
      rw [show ((es.length / 2 : Nat) : Int) = ((es.map (·.1)).length : Int) / 2 by rw [List.length_map]; omega] at tt
      exact tt
    · walk_at "ev"
      w_cond _28
      have S28 : Same (d2 H b t) H28 := (d2_k (kHe.trans (keepS sm28))).trans d2_le
      have hb28 := hbe.same sm28
      have hL28 := SqL.of (K := K) (sm28 _ _ hpe)
      have kd := kdD (dp_same S28 hdE)
      have ty := kd.ty
      obtain ⟨j1, j2, j3, j4, j5⟩ := kd.kit
      cases hdE with
      | lst h1 h2 =>
        have h1' := S28.seq h1
        walk_at "ev"
        refine .inl ⟨h1', ?_⟩
        w_cond _29
        have sx := sm28.trans sm29
        have hpx := sx _ _ hpe
        have nb : l29 ≠ b := hb28.ne hl29
        have nt : l29 ≠ t := fun z => by rw [z] at hl29; exact ht30 ((e3.trans sm28).free hl29)
        have n1 : l29 ≠ l1 := fun z => by rw [z, sm28 _ _ hpe] at hl29; cases hl29
        walk_at "ev"
        refine put H29 _ _ (keepS sx) (hbe.same sx) ⟨.tup (SqT.of (d2_of nb nt (by rw [upd_ne n1]; exact hq29))) (dpall_same (d2_k (keep_fresh (kHe.trans (keepS sx)) hl1)) h2), el_conv.1 hoE⟩
      | tup h1 h2 =>
        have h1' := same_t S28 h1
        walk_at "ev"
        w_cond _29
        have sx := sm28.trans sm29
        have hpx := sx _ _ hpe
        have nb : l29 ≠ b := hb28.ne hl29
        have nt : l29 ≠ t := fun z => by rw [z] at hl29; exact ht30 ((e3.trans sm28).free hl29)
        have n1 : l29 ≠ l1 := fun z => by rw [z, sm28 _ _ hpe] at hl29; cases hl29
        walk_at "ev"
        refine put H29 _ _ (keepS sx) (hbe.same sx) ⟨.lst (SqL.of (d2_of nb nt (by rw [upd_ne n1]; exact hq29))) (dpall_same (d2_k (keep_fresh (kHe.trans (keepS sx)) hl1)) h2), el_conv.2 hoE⟩
      | _ =>
        walk_at "ev"
        exact tail _ i _ sm28 hil
    · walk_at "ev"
      w_cond _28
      have S28 : Same (d2 H b t) H28 := (d2_k (kHe.trans (keepS sm28))).trans d2_le
      have hb28 := hbe.same sm28
      have hpX1 := sm28 _ _ hpe
      have hL28 := SqL.of (K := K) hpX1
      have hdX1 := dp_same S28 hdE
      have hdt : Dp K H28 (.ref l28) (.tuple [.int 0, .int 1]) := .tup (SqT.of hq28) (.cons (.int 0) (.cons (.int 1) .nil))
      have hs1 := hoE.1.shaped (by decide)
      have hs2 : SeqAt.shaped (.tuple [.int 0, .int 1]) = true := by decide +kernel
      cases hdE with
      | int z =>
        walk_at "ev"
        refine ite2 (fun c => ?_) (fun c => ?_)
        · have tv : TruV K (.int z) H28 (z != 0) := rfl
          walk_at "ev"
          exact put H28 _ (.bool _) (keepS sm28) hb28 ⟨.bl _, (sm_bl _).up (by decide) (by decide), True.intro⟩
        · walk_at "ev"
          exact tail _ i _ sm28 hil
      | bl z =>
        walk_at "ev"
        refine ite2 (fun c => ?_) (fun c => ?_)
        · have tv : TruV K (.bl z) H28 z := rfl
          walk_at "ev"
          exact put H28 _ (.bool _) (keepS sm28) hb28 ⟨.bl _, (sm_bl _).up (by decide) (by decide), True.intro⟩
        · walk_at "ev"
          exact tail _ i _ sm28 hil
      | _ =>
        walk_at "ev"
        refine iteFe (by rw [List.any_cons, List.any_cons, PyData.eqv, PyData.eqv]; rfl) ?_
        walk_at "ev"
        exact tail _ i _ sm28 hil
    · walk_at "ev"
      exact tail _ i _ (fun _ _ e => e) hil
    · walk_at "ev"
      exact tail _ i _ (fun _ _ e => e) hil
end
section
open PySem.Spec PyProof.Rows
variable {P : Program} {w : World} {K : PySem.W.Frag} {mg : Str → Option Value} {base : Heap}
theorem fnor {CX : CXT} {k : Nat} {f : Addr} {fd : FuncData} {ps : List Str} {sp sp1 sp2 : Sp} (G1 : FnOk P w K mg base CX k f fd ps sp1) (G2 : FnOk P w K mg base CX k f fd ps sp2) (h : ∀ vs H Q E, sp vs H Q E → sp1 vs H Q E ∨ sp2 vs H Q E) : FnOk P w K mg base CX k f fd ps sp :=
  ⟨fun vs H Q E x => (h vs H Q E x).elim (G1.len vs H Q E) (G2.len vs H Q E), fun A outer s H args us vs Q E hr e0 hb r x => (h vs H Q E x).elim (G1.run A outer s H args us vs Q E hr e0 hb r) (G2.run A outer s H args us vs Q E hr e0 hb r)⟩
end
def spToldS (K : PySem.W.Frag) (n : Nat) : Sp := fun vs H Q _ => ∃ (a : Addr) (xs : List V) (ds : List PyData), vs = [.ref a] ∧ (SqL K H a xs ∨ SqT K H a xs) ∧ DpAll K H xs ds ∧ ds.length ≤ 4000 ∧ (∀ e ∈ ds, Fs n e) ∧ ∀ p ys H', WayL xs ds ys → H p = none → Same H H' → H' p = some (.lst ys) → Q (.ref p) H'
theorem dpall_take {K : PySem.W.Frag} {H : Hp} : ∀ {xs : List V} {ds : List PyData} (k : Nat), DpAll K H xs ds → DpAll K H (xs.take k) (ds.take k)
  | _, _, 0, _ => .nil
  | _, _, _ + 1, .nil => .nil
  | _, _, k + 1, .cons h q => .cons h (dpall_take k q)
theorem lay_take : ∀ {ds : List PyData} {k : Nat}, PyData.canLayAll0 ds = true → PyData.canLayAll0 (ds.take k) = true
  | [], k, h => by rw [List.take_nil]; exact h
  | d :: r, 0, _ => by rw [List.take_zero, PyData.canLayAll0]
  | d :: r, k + 1, h => by
    rw [PyData.canLayAll0, Bool.and_eq_true] at h
    rw [List.take_succ_cons, PyData.canLayAll0, h.1, lay_take h.2]
    rfl
theorem dep_take : ∀ {ds : List PyData} {k : Nat}, PyData.depthAll (ds.take k) ≤ PyData.depthAll ds
  | [], k => by rw [List.take_nil]; exact Nat.le_refl _
  | d :: r, 0 => by rw [List.take_zero, PyData.depthAll]; exact Nat.zero_le _
  | d :: r, k + 1 => by
    have := dep_take (ds := r) (k := k)
    rw [List.take_succ_cons, PyData.depthAll, PyData.depthAll]
    exact Nat.max_le.mpr ⟨Nat.le_max_left _ _, Nat.le_trans this (Nat.le_max_right _ _)⟩
theorem way_dp {K : PySem.W.Frag} {H : Hp} {xs ys : List V} {ds : List PyData} {B : Nat} (h : WayL xs ds ys) (hd : DpAll K H xs ds) (hl : ds.length ≤ 4000) (hs : Sm B 6 (.list ds)) (hf : Fit 4 (.list ds)) : ∃ es, DpAll K H ys es ∧ Fs 4 (.list es) := by
  rcases h with ⟨_, _, rfl⟩ | ⟨_, rfl⟩ | ⟨_, r, _, _, rfl⟩
  · refine ⟨_, dpall_take _ hd, ⟨by rw [List.length_take]; omega, fun e he => hf.2 e (List.mem_of_mem_take he)⟩, ?_⟩
    obtain ⟨a, b⟩ := shp (hs.shaped (by decide))
    rw [PyData.canLay0] at a
    rw [PyData.depth] at b
    refine shp' (by rw [PyData.canLay0]; exact lay_take a) ?_
    rw [PyData.depth]
    have := dep_take (ds := ds) (k := xs.length / 2 + 1)
    omega
  · refine ⟨[.str "NotEven", .int ds.length], .cons (.str _) (.cons (.int _) .nil), ⟨by show 2 ≤ 4000; decide, fun e he => ?_⟩, ?_⟩
    · simp only [List.mem_cons, List.not_mem_nil, or_false] at he
      rcases he with z | z <;> subst z <;> exact True.intro
    · exact shp' (by rw [PyData.canLay0, PyData.canLayAll0, PyData.canLayAll0, PyData.canLayAll0, PyData.canLay0, PyData.canLay0]; decide +kernel) (by rw [PyData.depth, PyData.depthAll, PyData.depthAll, PyData.depthAll, PyData.depth, PyData.depth]; decide)
  · refine ⟨[.str "NotEven", .int r], .cons (.str _) (.cons (.int _) .nil), ⟨by show 2 ≤ 4000; decide, fun e he => ?_⟩, ?_⟩
    · simp only [List.mem_cons, List.not_mem_nil, or_false] at he
      rcases he with z | z <;> subst z <;> exact True.intro
    · exact shp' (by rw [PyData.canLay0, PyData.canLayAll0, PyData.canLayAll0, PyData.canLayAll0, PyData.canLay0, PyData.canLay0]; decide +kernel) (by rw [PyData.depth, PyData.depthAll, PyData.depthAll, PyData.depthAll, PyData.depth, PyData.depth]; decide)
theorem fs_bb {n : Nat} {b c : Bool} : Fs (n + 1) (.list [.bool b, .bool c]) := by
  refine ⟨⟨by show 2 ≤ 4000; decide, fun e he => ?_⟩, by cases b <;> cases c <;> decide +kernel⟩
  simp only [List.mem_cons, List.not_mem_nil, or_false] at he
  rcases he with z | z <;> subst z <;> cases n <;> exact True.intro
abbrev s__law_thing_right : Stmt := top 40
abbrev N__law_thing_right : List Str := ["_law_thing", "_law_stays", "_law_due_here", "_law_some", "_law_found"]
abbrev P__law_thing_right : List Str := ["_law_thing"]
theorem sc__law_thing_right : FnScope N__law_thing_right P__law_thing_right (defScope s__law_thing_right) := ⟨rfl, rfl, rfl, by decide +kernel, rfl, by decide +kernel, by decide +kernel⟩
def spThr (K : PySem.W.Frag) : Sp := fun vs H Q _ => ∃ (v : V) (d : PyData), vs = [v] ∧ Dp K H v d ∧ Sm 200000 6 d ∧ Fit 4 d ∧ ∀ H', Same H H' → Q (.bl true) H'
section
variable {P : Program} {w : World} {K : PySem.W.Frag} {mg : Str → Option Value} {base : Heap}
theorem ok_thr {f f1 f2 f3 f4 f5 f6 f7 f8 f9 f10 fI C CT : Addr} {fd e1 e2 e3 e4 e5 e6 e7 e8 e9 e10 fdI : FuncData} (F : Fun K "_law_thing_right" "_law_thing_right" s__law_thing_right f fd) (T : Blt mg) (S : S70 K mg CT C fI fdI) (D_first_unlike : Df K mg "first_unlike" s_first_unlike P_first_unlike f1 e1) (D_are_alike : Df K mg "are_alike" s_are_alike P_are_alike f2 e2) (D_half_of : Df K mg "half_of" s_half_of P_half_of f3 e3) (D__law_named_error : Df K mg "_law_named_error" s__law_named_error P__law_named_error f4 e4)
    (D_is_even : Df K mg "is_even" s_is_even P_is_even f5 e5) (D__law_same : Df K mg "_law_same" s__law_same P__law_same f6 e6) (D__law_bad_place : Df K mg "_law_bad_place" s__law_bad_place P__law_bad_place f7 e7) (D__law_is_so : Df K mg "_law_is_so" s__law_is_so P__law_is_so f8 e8) (D__law_due : Df K mg "_law_due" s__law_due P__law_due f9 e9) (D__law_told : Df K mg "_law_told" s__law_told P__law_told f10 e10)
    {f11 : Addr} {e11 : FuncData} (D__law_is_row : Df K mg "_law_is_row" s__law_is_row P__law_is_row f11 e11) : FnG P w K mg base CX0 8 f fd P__law_thing_right (spThr K) := by
  have G_is_even : FnOk P w K mg base CX0 6 f5 e5 P_is_even (spIsE K 3) := ok_isE D_is_even.F T D_first_unlike D_are_alike
  have G__law_is_so : FnOk P w K mg base CX0 6 f8 e8 P__law_is_so (spIsE K 3) := ok_iso D__law_is_so.F T D__law_bad_place D__law_same
  have G__law_same : FnOk P w K mg base CX0 5 f6 e6 P__law_same (spDsm K 4) := ok_dsm D__law_same T 4
  have G__law_is_row : FnOk P w K mg base CX0 1 f11 e11 P__law_is_row (spRow K) := ok_row D__law_is_row.F T
  have G__law_due : FnOk P w K mg base CX0 6 f9 e9 P__law_due (spDue K 3) := ok_due D__law_due.F T D__law_bad_place D__law_same
  have G__law_told : FnOk P w K mg base CX0 7 f10 e10 P__law_told (spToldS K 3) := fnor (ok_told D__law_told.F T S D_first_unlike D_are_alike D_half_of D__law_named_error) (ok_toldT D__law_told.F T S D_first_unlike D_are_alike D_half_of D__law_named_error) fun vs H Q E ⟨a, xs, ds, h1, h2, h3⟩ => h2.elim (fun h => .inl ⟨a, xs, ds, h1, h, h3⟩) (fun h => .inr ⟨a, xs, ds, h1, h, h3⟩)
  have nd := sc__law_thing_right.nd
  refine okG F sc__law_thing_right (fun vs H Q E h => ?_) (fun cdv A outer s H vs Q E hgd hr h => ?_)
  · obtain ⟨v, d, rfl, _⟩ := h
    rfl
  · obtain ⟨v, d, rfl, hd, hsm, hft, q⟩ := h
    refine ⟨_, (pss_cons (ps_set (i := 1) nd rfl (Or.inl rfl) (pe_callB (r := rRepG K) (call_reprG hgd hr.units) (by rfl) T.b_repr (by decide +kernel) (pa_cons (pv 0) pa_nil)))
      (pss_cons (ps_if (PW.pt (pw_or (pt_not (pt_val (pe_call G__law_same (hr.mono (by omega)) (by rfl) D__law_same.g D__law_same.F.kp D__law_same.b .nil pass0 (pa_cons (pe_lst (pa_cons (pe_call G_is_even (hr.mono (by omega)) (by rfl) D_is_even.g D_is_even.F.kp D_is_even.b .nil pass0 (pa_cons (pv 0) pa_nil)) (pa_cons (pe_call G_is_even (hr.mono (by omega)) (by rfl) D_is_even.g D_is_even.F.kp D_is_even.b .nil pass0 (pa_cons (pv 0) pa_nil)) pa_nil))) (pa_cons (pe_op op_rep (pe_lst (pa_cons (pe_call G__law_is_so (hr.mono (by omega)) (by rfl) D__law_is_so.g D__law_is_so.F.kp D__law_is_so.b .nil pass0 (pa_cons (pv 0) pa_nil)) pa_nil)) (pe_int)) pa_nil))))) (pw_or1 (pt_cmpR op_ne (pe_callB (r := rRepG K) (call_reprG hgd hr.units) (by rfl) T.b_repr (by decide +kernel) (pa_cons (pv 0) pa_nil)) (pv 1) (nomark _))))) (pss_one (ps_ret (pe_bl))) pss_nil)
      (pss_cons (ps_if (PW.pt (pw_or (pt_not (pt_val (pe_callB (r := rIsi K) call_isi (by rfl) T.b_isinstance (by decide +kernel) (pa_cons (pv 0) (pa_cons (pe_bltn (v := .ty "list") (by rfl) T.b_list (by decide +kernel) rfl) pa_nil))))) (pw_or1 (pt_not (pt_val (pe_call G__law_is_row (hr.mono (by omega)) (by rfl) D__law_is_row.g D__law_is_row.F.kp D__law_is_row.b .nil pass0 (pa_cons (pv 0) pa_nil))))))) (pss_one (ps_ret (pe_bl))) pss_nil)
      (pss_cons (ps_set (i := 2) nd rfl (Or.inl rfl) (pe_call G__law_due (hr.mono (by omega)) (by rfl) D__law_due.g D__law_due.F.kp D__law_due.b .nil pass0 (pa_cons (pv 0) pa_nil)))
      (pss_cons (ps_for PassesOwn.never rfl (pi_tup (pe_tup (pa_cons (pv 0) (pa_cons (pe_callTy call_tuple_of (by rfl) T.b_tuple (by decide +kernel) (pa_cons (pv 0) pa_nil)) pa_nil)))) (pg_name (i := 3) nd rfl (Or.inl rfl))
      (pss_cons (ps_set (i := 4) nd rfl (Or.inl rfl) (pe_call G__law_told (hr.mono (by omega)) (by rfl) D__law_told.g D__law_told.F.kp D__law_told.b .nil pass0 (pa_cons (pv 3) pa_nil)))
      (pss_cons (ps_if (pt_not (pt_val (pe_call G__law_same (hr.mono (by omega)) (by rfl) D__law_same.g D__law_same.F.kp D__law_same.b .nil pass0 (pa_cons (pv 4) (pa_cons (pv 2) pa_nil))))) (pss_one (ps_ret (pe_bl))) pss_nil)
      (pss_one (ps_expr (pe_bm0 PySem.F.plainAttrs_list PySem.F.slot_list_reverse PySem.F.type_list_reverse mt_reverse (pv 4)))))))
      (pss_one (ps_ret (pe_cmpR op_eq (pe_callB (r := rRepG K) (call_reprG hgd hr.units) (by rfl) T.b_repr (by decide +kernel) (pa_cons (pv 0) pa_nil)) (pv 1) (nomark _))))))))), ?_⟩
    have hsn : Shn d := hsm.shn (by decide) (by decide)
    have hfs : Fs 4 d := ⟨hft, hsm.shaped (by decide)⟩
    walk_at "ev"
    intro b1 H1 hb1 sm1
    have hd1 := dp_same sm1 hd
    walk_at "ev"
    intro b2 H2 hb2 sm2
    have eb : b2 = b1 := Bool.eq_iff_iff.mpr (hb2.trans hb1.symm)
    subst eb
    have hd2 := dp_same sm2 hd1
    walk_at "ev"
    w_cond _3
    have hd3 := dp_same sm3 hd2
    walk_at "ev"
    intro b4 H4 hb4 sm4
    have eb : b4 = b2 := Bool.eq_iff_iff.mpr (hb4.trans hb2.symm)
    subst eb
    have hd4 := dp_same sm4 hd3
    walk_at "ev"
    w_cond _5
    have z9 : 1 * 2 ≤ sizeLine := szl (by decide)
    walk_at "ev"
    w_cond _6
    have dA : Dp K H6 (.ref l3) (.list [.bool b4, .bool b4]) := .lst (SqL.of ((sm4.trans (sm5.trans sm6)) _ _ hq3)) (.cons (.bl _) (.cons (.bl _) .nil))
    have dB : Dp K H6 (.ref l6) (.list [.bool b4, .bool b4]) := .lst (SqL.of hq6) (.cons (.bl _) (.cons (.bl _) .nil))
    have fA : Fs 4 (.list [.bool b4, .bool b4]) := fs_bb
    walk_at "ev"
    intro H7 sm7
    rw [deq_t rfl]
    have s07 := sm1.trans (sm2.trans (sm3.trans (sm4.trans (sm5.trans (sm6.trans sm7)))))
    have hd7 := dp_same s07 hd
    have kd := kdD hd7
    have ty := kd.ty
    obtain ⟨j1, j2, j3, j4, j5⟩ := kd.kit
    cases hd with
    | lst h1 h2 =>
      rename_i a xs ds
      have hL7 := s07.seq h1
      have hA7 := dpall_same s07 h2
      have hdl : ds.length ≤ 4000 := hft.1
      have hfe : ∀ e ∈ ds, Fs 3 e := fun e he => hfs.lst he
      walk_at "ev"
      intro b8 H8 sm8
      have hL8 := sm8.seq hL7
      have hA8 := dpall_same sm8 hA7
      walk_at "ev"
      refine ite2 (fun c => ?_) (fun c => ?_)
      · walk_at "ev"
        exact q _ (s07.trans sm8)
      walk_at "ev"
      intro p9 ys H9 hw9 hp9 sm9 hq9
      have s09 := s07.trans (sm8.trans sm9)
      have hL9 := s09.seq h1
      have hA9 := dpall_same s09 h2
      obtain ⟨es, hes, hfs9⟩ := way_dp hw9 hA9 hdl hsm hft
      walk_at "ev"
      refine .inl ⟨hL9, ?_⟩
      w_cond _10
      walk_at "ev"
      w_cond _11
      have hT11 := SqT.of (K := K) hq11
      refine ⟨l11, rfl, ⟨_, hT11⟩, ?_⟩
      refine for_tup (K := K) (a := l11) (xs := [.ref a, .ref l10]) (fun i σ H' => Hold (∃ y3 y4, σ = [some (.ref a), some (.str (PyData.shown (.list ds))), some (.ref p9), y3, y4] ∧ Same H11 H')) (.mk ⟨_, _, rfl, Same.refl _⟩) ?_ ?_ ?_
      · intro i σ H12 hi hP
        obtain ⟨y3, y4, rfl, sm12⟩ := hP.un
        exact same_t sm12 hT11
      · intro i u σ H12 hu hP
        obtain ⟨y3, y4, rfl, sm12⟩ := hP.un
        have sc := s09.trans (sm10.trans (sm11.trans sm12))
        have hA12 := dpall_same sc h2
        have hdD := dpall_same (sm10.trans (sm11.trans sm12)) hes
        have hp12 := (sm10.trans (sm11.trans sm12)) _ _ hq9
        obtain ⟨r, rfl, hS⟩ : ∃ r, u = .ref r ∧ (SqL K H12 r xs ∨ SqT K H12 r xs) := by
          have hi : i < 2 := (List.getElem?_eq_some_iff.mp hu).1
          rcases (by omega : i = 0 ∨ i = 1) with z | z <;> subst z
          · exact ⟨a, by cases hu; rfl, .inl (sc.seq h1)⟩
          · exact ⟨l10, by cases hu; rfl, .inr (same_t (sm11.trans sm12) (SqT.of hq10))⟩
        walk_at "ev"
        intro p13 zs H13 hw13 hp13 sm13 hq13
        have ez := hw13.uniq hw9
        subst ez
        have dA : Dp K H13 (.ref p13) (.list es) := .lst (SqL.of hq13) (dpall_same sm13 hdD)
        have dB : Dp K H13 (.ref p9) (.list es) := .lst (SqL.of (sm13 _ _ hp12)) (dpall_same sm13 hdD)
        walk_at "ev"
        intro H14 sm14
        rw [deq_t rfl]
        have hq14 := sm14 _ _ hq13
        walk_at "ev"
        exact .mk ⟨_, _, rfl, same_mut (sm12.trans (sm13.trans sm14)) (sm12.free hp13)⟩
      · intro σ H12 hP
        obtain ⟨y3, y4, rfl, sm12⟩ := hP.un
        have sc := s09.trans (sm10.trans (sm11.trans sm12))
        have hd12 : Dp K H12 (.ref a) (.list ds) := .lst (sc.seq h1) (dpall_same sc h2)
        walk_at "ev"
        show Q (.bl (decide _)) H12
        rw [decide_eq_true rfl]
        exact q _ sc
    | _ =>
      walk_at "ev"
      exact q _ s07
end
def mid {α : Type} (xs : List α) : List α := ((xs.drop 1).take (xs.length - 2)).reverse
theorem mid_map {α β : Type} {f : α → β} (xs : List α) : mid (xs.map f) = (mid xs).map f := by
  unfold mid
  rw [List.map_reverse, List.map_take, List.map_drop, List.length_map]
theorem mid_len {α : Type} {xs : List α} (h : 2 ≤ xs.length) : (mid xs).length = xs.length - 2 := by
  unfold mid
  rw [List.length_reverse, List.length_take, List.length_drop]
  omega
theorem mid_get {α : Type} {xs : List α} {k : Nat} (h : k < xs.length - 2) : (mid xs)[k]? = xs[xs.length - 2 - k]? := by
  unfold mid
  rw [List.getElem?_reverse (by rw [List.length_take, List.length_drop]; omega), List.length_take, List.length_drop, List.getElem?_take_of_lt (by omega), List.getElem?_drop]
  congr 1
  omega
theorem mid_mem {α : Type} {xs : List α} {x : α} (h : x ∈ mid xs) : x ∈ xs := by
  unfold mid at h
  exact List.mem_of_mem_drop (List.mem_of_mem_take (List.mem_reverse.mp h))
theorem even_bad {ds : List PyData} (h : 2 ≤ ds.length) : (ds ++ mid ds).length = 2 * ds.length - 2 ∧ IsBad (ds ++ mid ds) 0 := by
  have hl : (ds ++ mid ds).length = 2 * ds.length - 2 := by rw [List.length_append, mid_len h]; omega
  refine ⟨hl, .inl ⟨rfl, fun p h1 h2 => ?_⟩⟩
  rw [hl] at h2 ⊢
  rw [List.getElem?_append_left (by omega), List.getElem?_append_right (by omega), mid_get (by omega)]
  congr 1
  omega
theorem even_evd {ds : List PyData} (h : 2 ≤ ds.length) : EvD (.list (ds ++ mid ds)) := by
  obtain ⟨h1, h2⟩ := even_bad h
  exact ⟨_, rfl, by omega, by omega, h2⟩
theorem d2_new {H H' : Hp} {b a D : Addr} (hD : H D = none) (h : Keep b H H') : Same (d2 H b a) (d2 H' b D) := fun x o e => by
  unfold d2 at e
  split at e
  · cases e
  · rename_i c
    exact d2_of (fun z => c (.inl z)) (fun z => by rw [z, hD] at e; cases e) (h x o (fun z => c (.inl z)) e)
theorem els_row {B : Nat} {K : PySem.W.Frag} {H : Hp} {rs : List (V × PyData)} (h : Els K H B rs) (hB : B ≤ 2010) (hl : rs.length ≤ 62) : Sm 200000 6 (.list (rs.map (·.2))) ∧ Fit 4 (.list (rs.map (·.2))) ∧ Sm 200000 6 (.tuple (rs.map (·.2))) ∧ Fit 4 (.tuple (rs.map (·.2))) := by
  have h1 : ∀ d ∈ rs.map (·.2), Sm 2010 4 d := fun d hd => by
    obtain ⟨e, he, rfl⟩ := List.mem_map.mp hd
    exact (h e he).2.1.up hB (Nat.le_refl _)
  have h2 : ∀ d ∈ rs.map (·.2), Fit 3 d := fun d hd => by
    obtain ⟨e, he, rfl⟩ := List.mem_map.mp hd
    exact (h e he).2.2
  have h3 : (rs.map (·.2)).length ≤ 62 := by rw [List.length_map]; exact hl
  exact ⟨(Sm.lst h3 h1).up (by decide) (by decide), ⟨by omega, h2⟩, (Sm.tup h3 h1).up (by decide) (by decide), ⟨by omega, h2⟩⟩
theorem all_true' (n : Nat) : (List.replicate n true).all id = true := by
  induction n with
  | zero => rfl
  | succ n ih =>
    rw [List.replicate_succ, List.all_cons, ih]
    rfl
abbrev s__law_right : Stmt := top 41
abbrev N__law_right : List Str := ["_law_box_here", "_law_half", "_law_row_here", "_law_found", "_law_turn"]
abbrev P__law_right : List Str := ["_law_box_here", "_law_half"]
theorem sc__law_right : FnScope N__law_right P__law_right (defScope s__law_right) := ⟨rfl, rfl, rfl, by decide +kernel, rfl, by decide +kernel, by decide +kernel⟩
section
variable {P : Program} {w : World} {K : PySem.W.Frag} {mg : Str → Option Value} {base : Heap}
theorem rt_tl {f f1 f2 : Addr} {e1 e2 : FuncData} {A : Around} {outer : List Env} {s : Shared} {H : Hp} {Q : VK} {E : XK} {cdv : Value} (T : Blt mg) (hgd : A.guards = some []) (hr : Room 8 (A.deeper (PyProof.Rows.envOfC "_law_right" (defScope s__law_right) s.heap.objs.size f cdv)))
    (D__law_thing_right : Df K mg "_law_thing_right" s__law_thing_right P__law_thing_right f1 e1) (G__law_thing_right : FnG P w K mg base CX0 8 f1 e1 P__law_thing_right (spThr K)) (D__law_bent : Df K mg "_law_bent" s__law_bent P__law_bent f2 e2) (G__law_bent : FnOk P w K mg base CX0 3 f2 e2 P__law_bent (spBnt K)) :
    ∃ tl, PSs (cxOf CX0 P w K mg base N__law_right "_law_right" (defScope s__law_right) f cdv A outer s H E).nox ((defBody s__law_right).drop 3) tl ∧
      ∀ (b lr : Addr) (n : Int) (rs : List (V × PyData)) (H3 : Hp) (x1 x3 : Option V), BoxAt H3 b n → n < 700000 → lr ≠ b → H3 lr = some (.lst (rs.map (·.1))) → 1 ≤ rs.length → rs.length ≤ 61 → Els K (d2 H3 b lr) 2000 rs → (∀ H', Keep b H3 H' → BoxAt H' b (n + 48) → Q (.bl true) H') →
        tl { nx := fun _ H' => Q .non H', rt := Q } [some (.ref b), x1, some (.ref lr), x3, none] H3 := by
  have nd := sc__law_right.nd
  refine ⟨_, (pss_one (ps_ret (pe_callB (r := rAll K) (cr_all rfl) (by rfl) T.b_all (by decide +kernel) (pa_cons (pe_lc (own := [("_law_turn", 4)]) (g := gName 4) (by rfl) nd (pi_range1 (by rfl) T.b_range (pa_cons (pe_int) pa_nil)) (blkOk_by (own := [("_law_turn", 4)]) (N := N__law_right) (sc := defScope s__law_right) (by decide +kernel)) (fun _ _ _ _ _ => (pg_name (i := 4) nd rfl (Or.inl rfl))) (fun _ _ _ _ _ => pts_nil) (fun _ _ _ _ _ => (pe_callG G__law_thing_right hgd (hr.mono (by omega)) (by rfl) D__law_thing_right.g D__law_thing_right.F.kp D__law_thing_right.b .nil pass0 (pa_cons (pe_call G__law_bent (hr.mono (by omega)) (by rfl) D__law_bent.g D__law_bent.F.kp D__law_bent.b .nil pass0 (pa_cons (pv 0) (pa_cons (pv 2) pa_nil))) pa_nil)))) pa_nil)))), ?_⟩
  intro b lr n rs H3 x1 x3 hb hn nlb hlr r1 r61 hrs q
  walk_at "ev"
  intro D hD
  have nDb := hb.ne hD
  have nDl : lr ≠ D := ne_of_none hlr hD
  refine lc_range (lo := 0) (n := _) (fun j H' => Hold (Keep b H3 H' ∧ BoxAt H' b (n + 8 * (j : Int)) ∧ H' D = some (.lst ((List.replicate j true).map V.bl)))) (.mk ⟨keepS (same_new hD), (hb.upd nDb).mono (by omega), upd_same⟩) ?_ ?_
  · intro j H4 hj hP
    obtain ⟨k4, hb4, hD4⟩ := hP.un
    have hj6 : j < 6 := hj
    have hlr4 := k4 _ _ nlb hlr
    have hrs4 : Els K (d2 H4 b lr) 2000 rs := hrs.same (d2_k k4)
    have hn4 : n + 8 * (j : Int) < 800000 := by omega
    walk_at "ev"
    intro p es' H5 k5 hb5 hp5 hl5 hes5 hq5
    obtain ⟨m1, m2, _, _⟩ := els_row hes5 (by decide) (by omega)
    have hd5 : Dp K H5 (.ref p) (.list (es'.map (·.2))) := .lst (SqL.of hq5) (dp_es fun e he => dp_same d2_le (hes5 e he).1)
    walk_at "ev"
    intro H6 sm6
    have hD6 := sm6 _ _ (k5 _ _ nDb hD4)
    refine ⟨_, hD6, szm (by rw [List.length_map, List.length_replicate]; omega), .mk ⟨keep_fresh (k4.trans (k5.trans (keepS sm6))) hD, ((hb5.same sm6).upd nDb).mono (by omega), ?_⟩⟩
    rw [upd_same, List.replicate_succ', List.map_append]
    rfl
  · intro H4 hP
    obtain ⟨k4, hb4, hD4⟩ := hP.un
    refine ⟨D, _, rfl, SqL.of hD4, ?_⟩
    rw [all_true']
    walk_at "ev"
    exact q _ k4 (hb4.mono (by omega))
end
def spEfS (K : PySem.W.Frag) : Sp := fun vs H Q _ => ∃ (a : Addr) (xs : List V), vs = [.ref a] ∧ (SqL K H a xs ∨ SqT K H a xs) ∧ 2 ≤ xs.length ∧ xs.length ≤ 1000 ∧ ∀ p H', H p = none → Same H H' → H' p = some (.lst (xs ++ midR xs)) → Q (.ref p) H'
def spRt (K : PySem.W.Frag) : Sp := fun vs H Q _ => ∃ (b a : Addr) (n : Int) (es : List (V × PyData)), vs = [.ref b, .ref a] ∧ BoxAt H b n ∧ n < 700000 ∧ a ≠ b ∧ H a = some (.lst (es.map (·.1))) ∧ 2 ≤ es.length ∧ es.length ≤ 31 ∧ Els K (d2 H b a) 2000 es ∧ ∀ H', Keep b H H' → BoxAt H' b (n + 48) → Q (.bl true) H'
theorem fs_up {n : Nat} {d : PyData} (h : Fs n d) : Fs (n + 1) d := ⟨fit_up h.1, h.2⟩
theorem fs_3 {n : Nat} {a b c : PyData} (ha : Fs n a) (hb : Fs n b) (hc : Fs n c) (h64 : a.depth ≤ 60 ∧ b.depth ≤ 60 ∧ c.depth ≤ 60) : Fs (n + 1) (.list [a, b, c]) := by
  refine ⟨⟨by show 3 ≤ 4000; decide, fun e he => ?_⟩, ?_⟩
  · simp only [List.mem_cons, List.not_mem_nil, or_false] at he
    rcases he with z | z | z <;> subst z
    · exact ha.1
    · exact hb.1
    · exact hc.1
  · obtain ⟨a1, a2⟩ := shp ha.2
    obtain ⟨b1, b2⟩ := shp hb.2
    obtain ⟨c1, c2⟩ := shp hc.2
    refine shp' ?_ ?_
    · rw [PyData.canLay0, PyData.canLayAll0, PyData.canLayAll0, PyData.canLayAll0, PyData.canLayAll0, a1, b1, c1]
      rfl
    · rw [PyData.depth, PyData.depthAll, PyData.depthAll, PyData.depthAll, PyData.depthAll]
      omega
section
variable {P : Program} {w : World} {K : PySem.W.Frag} {mg : Str → Option Value} {base : Heap}
theorem ok_rt {f f1 f2 f3 f4 f5 f6 f7 f8 f9 f10 f11 f12 f13 f14 f15 f16 f17 fI C CT : Addr} {fd e1 e2 e3 e4 e5 e6 e7 e8 e9 e10 e11 e12 e13 e14 e15 e16 e17 fdI : FuncData} (F : Fun K "_law_right" "_law_right" s__law_right f fd) (T : Blt mg) (S : S70 K mg CT C fI fdI) (D_first_unlike : Df K mg "first_unlike" s_first_unlike P_first_unlike f1 e1) (D_are_alike : Df K mg "are_alike" s_are_alike P_are_alike f2 e2) (D_half_of : Df K mg "half_of" s_half_of P_half_of f3 e3) (D__law_named_error : Df K mg "_law_named_error" s__law_named_error P__law_named_error f4 e4)
    (D_is_even : Df K mg "is_even" s_is_even P_is_even f5 e5) (D__law_same : Df K mg "_law_same" s__law_same P__law_same f6 e6) (D__law_bad_place : Df K mg "_law_bad_place" s__law_bad_place P__law_bad_place f7 e7) (D__law_is_so : Df K mg "_law_is_so" s__law_is_so P__law_is_so f8 e8) (D__law_due : Df K mg "_law_due" s__law_due P__law_due f9 e9) (D__law_told : Df K mg "_law_told" s__law_told P__law_told f10 e10)
    (D__law_is_row : Df K mg "_law_is_row" s__law_is_row P__law_is_row f11 e11) (D__law_thing_right : Df K mg "_law_thing_right" s__law_thing_right P__law_thing_right f12 e12) (D__law_bent : Df K mg "_law_bent" s__law_bent P__law_bent f13 e13) (D__law_take : Df K mg "_law_take" s__law_take P__law_take f14 e14) (D__law_pick : Df K mg "_law_pick" s__law_pick P__law_pick f15 e15) (D_even_from : Df K mg "even_from" s_even_from P_even_from f16 e16) (D__law_even_row : Df K mg "_law_even_row" s__law_even_row P__law_even_row f17 e17) : FnG P w K mg base CX0 9 f fd P__law_right (spRt K) := by
  have G_is_even : FnOk P w K mg base CX0 6 f5 e5 P_is_even (spIsE K 3) := ok_isE D_is_even.F T D_first_unlike D_are_alike
  have G__law_same : FnOk P w K mg base CX0 6 f6 e6 P__law_same (spDsm K 5) := ok_dsm D__law_same T 5
  have G__law_is_row : FnOk P w K mg base CX0 1 f11 e11 P__law_is_row (spRow K) := ok_row D__law_is_row.F T
  have G_half_of : FnOk P w K mg base (L2.CX P w) 6 f3 e3 P_half_of (spHalf K C 3) := ok_half D_half_of.F T D_first_unlike D_are_alike S.x S.R S.m1
  have G_even_from : FnOk P w K mg base CX0 1 f16 e16 P_even_from (spEfS K) := fnor (ok_ef (k := 0) D_even_from.F T) (ok_efT (k := 0) D_even_from.F T) fun vs H Q E ⟨a, xs, h1, h2, h3⟩ => h2.elim (fun h => .inl ⟨a, xs, h1, h, h3⟩) (fun h => .inr ⟨a, xs, h1, h, h3⟩)
  have G__law_even_row : FnOk P w K mg base CX0 1 f17 e17 P__law_even_row (spEf K) := ok_er (k := 0) D__law_even_row.F T
  have G__law_thing_right : FnG P w K mg base CX0 8 f12 e12 P__law_thing_right (spThr K) := ok_thr D__law_thing_right.F T S D_first_unlike D_are_alike D_half_of D__law_named_error D_is_even D__law_same D__law_bad_place D__law_is_so D__law_due D__law_told D__law_is_row
  have G__law_bent : FnOk P w K mg base CX0 3 f13 e13 P__law_bent (spBnt K) := ok_bnt (k := 0) D__law_bent.F T D__law_take D__law_pick
  have nd := sc__law_right.nd
  refine okG F sc__law_right (fun vs H Q E h => ?_) (fun cdv A outer s H vs Q E hgd hr h => ?_)
  · obtain ⟨b, a, n, es, rfl, _⟩ := h
    rfl
  · obtain ⟨b, a, n, es, rfl, hb, hn, hab, ha, e2', e31, hes, q⟩ := h
    obtain ⟨tl, htl, fin⟩ := rt_tl (P := P) (w := w) (base := base) (outer := outer) (H := H) (Q := Q) (E := E) T hgd hr D__law_thing_right G__law_thing_right D__law_bent G__law_bent
    refine ⟨_, (pss_cons (ps_set (i := 2) nd rfl (Or.inr rfl) (pe_call G__law_even_row (hr.mono (by omega)) (by rfl) D__law_even_row.g D__law_even_row.F.kp D__law_even_row.b .nil pass0 (pa_cons (pv 1) pa_nil)))
      (pss_cons (ps_if (PW.pt (pw_or (pt_cmpR op_notBl (pe_call G_is_even (hr.mono (by omega)) (by rfl) D_is_even.g D_is_even.F.kp D_is_even.b .nil pass0 (pa_cons (pv 2) pa_nil)) (pe_bl) (nomark _)) (pw_or (pt_not (pt_val (pe_callG G__law_thing_right hgd (hr.mono (by omega)) (by rfl) D__law_thing_right.g D__law_thing_right.F.kp D__law_thing_right.b .nil pass0 (pa_cons (pv 2) pa_nil)))) (pw_or1 (pt_not (pt_val (pe_callG G__law_thing_right hgd (hr.mono (by omega)) (by rfl) D__law_thing_right.g D__law_thing_right.F.kp D__law_thing_right.b .nil pass0 (pa_cons (pe_callTy call_tuple_of (by rfl) T.b_tuple (by decide +kernel) (pa_cons (pv 2) pa_nil)) pa_nil)))))))) (pss_one (ps_ret (pe_bl))) pss_nil)
      (pss_cons (ps_if (pt_val (pe_call G__law_is_row (hr.mono (by omega)) (by rfl) D__law_is_row.g D__law_is_row.F.kp D__law_is_row.b .nil pass0 (pa_cons (pv 1) pa_nil))) (pss_cons (ps_set (i := 3) nd rfl (Or.inl rfl) (pe_call G_even_from (hr.mono (by omega)) (by rfl) D_even_from.g D_even_from.F.kp D_even_from.b .nil pass0 (pa_cons (pv 1) pa_nil)))
      (pss_cons (ps_if (pt_not (pt_val (pe_call G__law_same (hr.mono (by omega)) (by rfl) D__law_same.g D__law_same.F.kp D__law_same.b .nil pass0 (pa_cons (pe_lst (pa_cons (pv 3) (pa_cons (pe_call G_even_from (hr.mono (by omega)) (by rfl) D_even_from.g D_even_from.F.kp D_even_from.b .nil pass0 (pa_cons (pe_callTy call_tuple_of (by rfl) T.b_tuple (by decide +kernel) (pa_cons (pv 1) pa_nil)) pa_nil)) (pa_cons (pe_call G_half_of (hr.mono (by omega)) (by rfl) D_half_of.g D_half_of.F.kp D_half_of.b .nil passL (pa_cons (pv 3) pa_nil)) pa_nil)))) (pa_cons (pe_lst (pa_cons (pv 2) (pa_cons (pv 2) (pa_cons (pe_callTy call_list_of (by rfl) T.b_list (by decide +kernel) (pa_cons (pv 1) pa_nil)) pa_nil)))) pa_nil))))) (pss_one (ps_ret (pe_bl))) pss_nil)
      (pss_cons (ps_expr (pe_bm PySem.F.plainAttrs_list PySem.F.slot_list_append PySem.F.type_list_append mt_append (pv 3) (pa_cons (pe_str) pa_nil)))
      (pss_one (ps_if (pt_not (pt_val (pe_call G__law_same (hr.mono (by omega)) (by rfl) D__law_same.g D__law_same.F.kp D__law_same.b .nil pass0 (pa_cons (pe_call G_even_from (hr.mono (by omega)) (by rfl) D_even_from.g D_even_from.F.kp D_even_from.b .nil pass0 (pa_cons (pv 1) pa_nil)) (pa_cons (pv 2) pa_nil))))) (pss_one (ps_ret (pe_bl))) pss_nil))))) pss_nil)
      htl))), ?_⟩
    have hL := SqL.of (K := K) ha
    have hxl : (es.map (·.1)).length = es.length := List.length_map _
    have x2 : 2 ≤ (es.map (·.1)).length := by omega
    have x3 : (es.map (·.1)).length ≤ 1000 := by omega
    walk_at "ev"
    intro lr H1 hlr0 sm1 hlr
    have er : es.map (·.1) ++ midR (es.map (·.1)) = (es ++ mid es).map (·.1) := by
      rw [List.map_append, ← mid_map]
      rfl
    rw [er] at hlr
    have ed : (es ++ mid es).map (·.2) = es.map (·.2) ++ mid (es.map (·.2)) := by rw [List.map_append, mid_map]
    have hev : EvD (.list ((es ++ mid es).map (·.2))) := by
      rw [ed]
      exact even_evd (by rw [List.length_map]; exact e2')
    have hrl : (es ++ mid es).length = 2 * es.length - 2 := by rw [List.length_append, mid_len e2']; omega
    have hrs1 : Els K (d2 H1 b lr) 2000 (es ++ mid es) := by
      intro e he
      have hm : e ∈ es := by
        rcases List.mem_append.mp he with z | z
        · exact z
        · exact mid_mem z
      exact hes.same (d2_new hlr0 (keepS sm1)) e hm
    have hbad := even_bad (ds := es.map (·.2)) (by rw [List.length_map]; exact e2')
    rw [← ed] at hbad
    obtain ⟨m1, m2, m3, m4⟩ := els_row hrs1 (by decide) (by omega)
    obtain ⟨h1, h2, _, _⟩ := els_row hes (by decide) (by omega)
    have nlb : lr ≠ b := hb.ne hlr0
    have hdA : DpAll K H1 ((es ++ mid es).map (·.1)) ((es ++ mid es).map (·.2)) := dp_es fun e he => dp_same d2_le (hrs1 e he).1
    have hhA : DpAll K H (es.map (·.1)) (es.map (·.2)) := dp_es fun e he => dp_same d2_le (hes e he).1
    have fin' : ∀ (Hx : Hp) (x1 x3 : Option V), Same H1 Hx → tl { nx := fun _ H' => Q .non H', rt := Q } [some (.ref b), x1, some (.ref lr), x3, none] Hx := fun Hx x1 x3 sx => fin b lr n (es ++ mid es) Hx x1 x3 (hb.same (sm1.trans sx)) hn nlb (sx _ _ hlr) (by omega) (by omega) (hrs1.same (d2_k (keepS sx))) fun H' k' hb' => q H' ((keepS (sm1.trans sx)).trans k') hb'
    clear fin
    generalize hrsg : es ++ mid es = rs at *
    have hd1 : Dp K H1 (.ref lr) (.list (rs.map (·.2))) := .lst (SqL.of hlr) hdA
    have fs1 : Fs 4 (.list (rs.map (·.2))) := ⟨m2, m1.shaped (by decide)⟩
    have fs0 : Fs 4 (.list (es.map (·.2))) := ⟨h2, h1.shaped (by decide)⟩
    walk_at "ev"
    intro b2 H2 hb2 sm2
    have eb : b2 = true := hb2.mpr hev
    subst eb
    have hd2 := dp_same sm2 hd1
    walk_at "ev"
    intro H3 sm3
    have hlr3 := (sm2.trans sm3) _ _ hlr
    walk_at "ev"
    refine .inl ⟨SqL.of hlr3, ?_⟩
    w_cond _4
    have s14 := sm2.trans (sm3.trans sm4)
    have hd4 : Dp K H4 (.ref l4) (.tuple (rs.map (·.2))) := .tup (SqT.of hq4) (dpall_same s14 hdA)
    walk_at "ev"
    intro H5 sm5
    have s15 := s14.trans sm5
    have s05 := sm1.trans s15
    have hL5 := s05.seq hL
    have hhA5 := dpall_same s05 hhA
    walk_at "ev"
    intro b6 H6 sm6
    have s16 := s15.trans sm6
    have s06 := s05.trans sm6
    walk_at "ev"
    refine ite2 (fun c => ?_) (fun c => ?_)
    · have hL6 : SqL K H6 a (es.map (·.1)) ∨ SqT K H6 a (es.map (·.1)) := .inl (s06.seq hL)
      walk_at "ev"
      intro p7 H7 hp7 sm7 hq7
      have s07 := s06.trans sm7
      rw [er] at hq7
      walk_at "ev"
      refine .inl ⟨s07.seq hL, ?_⟩
      w_cond _8
      have hL8 : SqL K H8 l8 (es.map (·.1)) ∨ SqT K H8 l8 (es.map (·.1)) := .inr (SqT.of hq8)
      walk_at "ev"
      intro p9 H9 hp9 sm9 hq9
      rw [er] at hq9
      have hq79 := (sm8.trans sm9) _ _ hq7
      have s09 := s07.trans (sm8.trans sm9)
      have s19 := s16.trans (sm7.trans (sm8.trans sm9))
      have hL9 := SqL.of (K := K) hq79
      have hA9 := dpall_same s19 hdA
      have hdl : (rs.map (·.2)).length ≤ 4000 := by rw [List.length_map]; omega
      have hfe : ∀ e ∈ rs.map (·.2), Fs 3 e := fun e he => fs1.lst he
      walk_at "ev"
      refine ⟨fun _ _ p10 H10 hp10 sm10 hq10 => ?_, fun z => absurd (by rw [hbad.1]; omega) z, fun _ r z1 z2 => absurd (z2.uniq hbad.2) z1⟩
      have etk : (rs.map (·.1)).take ((rs.map (·.1)).length / 2 + 1) = es.map (·.1) := by
        rw [List.length_map, hrl, show (2 * es.length - 2) / 2 + 1 = es.length by omega, ← List.map_take, ← hrsg, List.take_left' rfl]
      rw [etk] at hq10
      walk_at "ev"
      w_cond _11
      have s011 := s09.trans (sm10.trans sm11)
      have hL11 := s011.seq hL
      walk_at "ev"
      w_cond _12
      walk_at "ev"
      w_cond _13
      have s913 := sm10.trans (sm11.trans (sm12.trans sm13))
      have s113 := s19.trans s913
      have s013 := s09.trans s913
      have hA13 := dpall_same s113 hdA
      have hh13 := dpall_same s013 hhA
      have dA : Dp K H13 (.ref l11) (.list [.list (rs.map (·.2)), .list (rs.map (·.2)), .list (es.map (·.2))]) := .lst (SqL.of ((sm12.trans sm13) _ _ hq11)) (.cons (.lst (SqL.of (s913 _ _ hq79)) hA13) (.cons (.lst (SqL.of (s913 _ _ hq9)) hA13) (.cons (.lst (SqL.of ((sm11.trans (sm12.trans sm13)) _ _ hq10)) hh13) .nil)))
      have dB : Dp K H13 (.ref l13) (.list [.list (rs.map (·.2)), .list (rs.map (·.2)), .list (es.map (·.2))]) := .lst (SqL.of hq13) (.cons (.lst (SqL.of (s113 _ _ hlr)) hA13) (.cons (.lst (SqL.of (s113 _ _ hlr)) hA13) (.cons (.lst (SqL.of (sm13 _ _ hq12)) hh13) .nil)))
      have fsD : Fs 5 (.list [.list (rs.map (·.2)), .list (rs.map (·.2)), .list (es.map (·.2))]) := fs_3 fs1 fs1 fs0 ⟨Nat.le_trans m1.p (by decide), Nat.le_trans m1.p (by decide), Nat.le_trans h1.p (by decide)⟩
      walk_at "ev"
      intro H14 sm14
      rw [deq_t rfl]
      have hq714 := sm14 _ _ (s913 _ _ hq79)
      have hsz : (rs.map (·.1)).length < sizeLine := szm (by rw [List.length_map]; omega)
      have s615 : Same H6 (upd H14 p7 (.lst (rs.map (·.1) ++ [.str "changed"]))) := same_mut (sm7.trans (sm8.trans (sm9.trans (s913.trans sm14)))) hp7
      have hL15 : SqL K (upd H14 p7 (.lst (rs.map (·.1) ++ [.str "changed"]))) a (es.map (·.1)) ∨ SqT K (upd H14 p7 (.lst (rs.map (·.1) ++ [.str "changed"]))) a (es.map (·.1)) := .inl ((s06.trans s615).seq hL)
      walk_at "ev"
      intro p16 H16 hp16 sm16 hq16
      rw [er] at hq16
      have s116 := s16.trans (s615.trans sm16)
      have hA16 := dpall_same s116 hdA
      have dC : Dp K H16 (.ref p16) (.list (rs.map (·.2))) := .lst (SqL.of hq16) hA16
      have dD : Dp K H16 (.ref lr) (.list (rs.map (·.2))) := .lst (SqL.of (s116 _ _ hlr)) hA16
      have fsE := fs_up fs1
      walk_at "ev"
      intro H17 sm17
      rw [deq_t rfl]
      walk_at "ev"
      exact fin' _ _ _ (s116.trans sm17)
    · walk_at "ev"
      exact fin' _ _ _ s16
end
abbrev s_law : Stmt := top 42
abbrev N_law : List Str := ["_law_script", "_law_cells", "_law_thing", "_law_k", "_law_box_here", "_law_turn", "_law_world_here", "_law_count", "_law_half"]
abbrev P_law : List Str := ["_law_script"]
theorem sc_law : FnScope N_law P_law (defScope s_law) := ⟨rfl, rfl, rfl, by decide +kernel, rfl, by decide +kernel, by decide +kernel⟩
def spLaw (K : PySem.W.Frag) : Sp := fun vs H Q _ => ∃ (a : Addr) (ns : List Int), vs = [.ref a] ∧ SqL K H a (ns.map V.int) ∧ ns.length ≤ 63 ∧ ∀ H', Q (.bl true) H'
theorem sf_lit {d : PyData} (h : (d.canLay0 && d.showable && decide (dw d ≤ 2000) && decide (d.depth ≤ 4) && fitB 4 d) = true) : Sm 200000 6 d ∧ Fit 4 d := by
  simp only [Bool.and_eq_true, decide_eq_true_eq] at h
  obtain ⟨⟨⟨⟨h1, h2⟩, h3⟩, h4⟩, h5⟩ := h
  exact ⟨⟨h1, h2, by omega, by omega⟩, fit_of h5⟩
structure Fns (P : Program) (w : World) (K : PySem.W.Frag) (mg : Str → Option Value) (base : Heap) : Prop where
  x0 : ∃ f fd, Df K mg "are_alike" s_are_alike P_are_alike f fd
  x1 : ∃ f fd, Df K mg "first_unlike" s_first_unlike P_first_unlike f fd
  x2 : ∃ f fd, Df K mg "is_even" s_is_even P_is_even f fd
  x3 : ∃ f fd, Df K mg "half_of" s_half_of P_half_of f fd
  x4 : ∃ f fd, Df K mg "even_from" s_even_from P_even_from f fd
  x5 : ∃ f fd, Df K mg "_law_box" s__law_box P__law_box f fd
  x6 : ∃ f fd, Df K mg "_law_take" s__law_take P__law_take f fd
  x7 : ∃ f fd, Df K mg "_law_pick" s__law_pick P__law_pick f fd
  x8 : ∃ f fd, Df K mg "_law_folded" s__law_folded P__law_folded f fd
  x9 : ∃ f fd, Df K mg "_law_same" s__law_same P__law_same f fd
  x10 : ∃ f fd, Df K mg "_law_is_plain_prime" s__law_is_plain_prime P__law_is_plain_prime f fd
  x11 : ∃ f fd, Df K mg "_law_least_generator" s__law_least_generator P__law_least_generator f fd
  x12 : ∃ f fd, Df K mg "_law_divided" s__law_divided P__law_divided f fd
  x13 : ∃ f fd, Df K mg "_law_own_wheel" s__law_own_wheel P__law_own_wheel f fd
  x14 : ∃ f fd, Df K mg "_law_world" s__law_world P__law_world f fd
  x15 : ∃ f fd, Df K mg "_law_worth" s__law_worth P__law_worth f fd
  x16 : ∃ f fd, Df K mg "_law_row" s__law_row P__law_row f fd
  x17 : ∃ f fd, Df K mg "_law_named_error" s__law_named_error P__law_named_error f fd
  x18 : ∃ f fd, Df K mg "_law_even_row" s__law_even_row P__law_even_row f fd
  x19 : ∃ f fd, Df K mg "_law_raised" s__law_raised P__law_raised f fd
  x20 : ∃ f fd, Df K mg "_law_bad_place" s__law_bad_place P__law_bad_place f fd
  x21 : ∃ f fd, Df K mg "_law_due" s__law_due P__law_due f fd
  x22 : ∃ f fd, Df K mg "_law_told" s__law_told P__law_told f fd
  x23 : ∃ f fd, Df K mg "_law_is_so" s__law_is_so P__law_is_so f fd
  x24 : ∃ f fd, Df K mg "_law_things" s__law_things P__law_things f fd
  x25 : ∃ f fd, Df K mg "_law_bent" s__law_bent P__law_bent f fd
  x26 : ∃ f fd, Df K mg "_law_is_row" s__law_is_row P__law_is_row f fd
  x27 : ∃ f fd, Df K mg "_law_thing_right" s__law_thing_right P__law_thing_right f fd
  x28 : ∃ f fd, Df K mg "_law_right" s__law_right P__law_right f fd
section
variable {P : Program} {w : World} {K : PySem.W.Frag} {mg : Str → Option Value} {base : Heap}
theorem ok_law {f fI CT C : Addr} {fd fdI : FuncData} (F : Fun K "law" "law" s_law f fd) (T : Blt mg) (U : Fns P w K mg base) (S : S70 K mg CT C fI fdI) : FnG P w K mg base CX0 10 f fd P_law (spLaw K) := by
  obtain ⟨⟨f0, d0, D_are_alike⟩, ⟨f1, d1, D_first_unlike⟩, ⟨f2, d2, D_is_even⟩, ⟨f3, d3, D_half_of⟩, ⟨f4, d4, D_even_from⟩, ⟨f5, d5, D__law_box⟩, ⟨f6, d6, D__law_take⟩, ⟨f7, d7, D__law_pick⟩, ⟨f8, d8, D__law_folded⟩, ⟨f9, d9, D__law_same⟩, ⟨f10, d10, D__law_is_plain_prime⟩, ⟨f11, d11, D__law_least_generator⟩, ⟨f12, d12, D__law_divided⟩, ⟨f13, d13, D__law_own_wheel⟩, ⟨f14, d14, D__law_world⟩, ⟨f15, d15, D__law_worth⟩, ⟨f16, d16, D__law_row⟩, ⟨f17, d17, D__law_named_error⟩, ⟨f18, d18, D__law_even_row⟩, ⟨f19, d19, D__law_raised⟩, ⟨f20, d20, D__law_bad_place⟩, ⟨f21, d21, D__law_due⟩, ⟨f22, d22, D__law_told⟩, ⟨f23, d23, D__law_is_so⟩, ⟨f24, d24, D__law_things⟩, ⟨f25, d25, D__law_bent⟩, ⟨f26, d26, D__law_is_row⟩, ⟨f27, d27, D__law_thing_right⟩, ⟨f28, d28, D__law_right⟩⟩ := U
  have G__law_box : FnOk P w K mg base CX0 1 f5 d5 P__law_box (spBox K) := ok_box D__law_box.F T
  have G__law_folded : FnOk P w K mg base CX0 1 f8 d8 P__law_folded (spFold K) := ok_fold D__law_folded.F T
  have G__law_take : FnOk P w K mg base CX0 1 f6 d6 P__law_take spTake := ok_take D__law_take.F
  have G__law_world : FnOk P w K mg base CX0 7 f14 d14 P__law_world spWorld := ok_world D__law_world.F T D__law_take D__law_own_wheel D__law_divided D__law_least_generator D__law_is_plain_prime D__law_raised
  have G__law_row : FnOk P w K mg base CX0 4 f16 d16 P__law_row spRowG := ok_rowG (k := 0) D__law_row.F T D__law_worth D__law_take D__law_pick
  have G__law_things : FnOk P w K mg base CX0 3 f24 d24 P__law_things (spThg K) := ok_thg (k := 0) D__law_things.F T D__law_take D__law_pick
  have G__law_thing_right : FnG P w K mg base CX0 8 f27 d27 P__law_thing_right (spThr K) := ok_thr D__law_thing_right.F T S D_first_unlike D_are_alike D_half_of D__law_named_error D_is_even D__law_same D__law_bad_place D__law_is_so D__law_due D__law_told D__law_is_row
  have G__law_right : FnG P w K mg base CX0 9 f28 d28 P__law_right (spRt K) := ok_rt D__law_right.F T S D_first_unlike D_are_alike D_half_of D__law_named_error D_is_even D__law_same D__law_bad_place D__law_is_so D__law_due D__law_told D__law_is_row D__law_thing_right D__law_bent D__law_take D__law_pick D_even_from D__law_even_row
  have nd := sc_law.nd
  refine okG F sc_law (fun vs H Q E h => ?_) (fun cdv A outer s H vs Q E hgd hr h => ?_)
  · obtain ⟨a, ns, rfl, _⟩ := h
    rfl
  · obtain ⟨a, ns, rfl, hS, hlen, q⟩ := h
    refine ⟨_, (pss_cons (ps_set (i := 1) nd rfl (Or.inl rfl) (pe_call G__law_folded (hr.mono (by omega)) (by rfl) D__law_folded.g D__law_folded.F.kp D__law_folded.b .nil pass0 (pa_cons (pv 0) (pa_cons (pe_int) pa_nil))))
      (pss_cons (ps_for PassesOwn.never rfl (pi_tup (pe_tup (pa_cons (pe_non) (pa_cons (pe_int) (pa_cons (pe_bl) (pa_cons (pe_str) (pa_cons (pe_str) (pa_cons (pe_tup pa_nil) (pa_cons (pe_tup (pa_cons (pe_int) (pa_cons (pe_int) pa_nil))) (pa_cons (pe_lst pa_nil) (pa_cons (pe_lst (pa_cons (pe_int) pa_nil)) (pa_cons (pe_lst (pa_cons (pe_int) (pa_cons (pe_int) pa_nil))) (pa_cons (pe_lst (pa_cons (pe_lst pa_nil) (pa_cons (pe_tup pa_nil) pa_nil))) (pa_cons (pe_lst (pa_cons (pe_int) (pa_cons (pe_int) (pa_cons (pe_int) (pa_cons (pe_int) pa_nil))))) (pa_cons (pe_lst (pa_cons (pe_int) (pa_cons (pe_bl) (pa_cons (pe_int) (pa_cons (pe_int) pa_nil))))) (pa_cons (pe_lst (pa_cons (pe_tup pa_nil) pa_nil)) pa_nil)))))))))))))))) (pg_name (i := 2) nd rfl (Or.inl rfl))
      (pss_one (ps_if (pt_not (pt_val (pe_callG G__law_thing_right hgd (hr.mono (by omega)) (by rfl) D__law_thing_right.g D__law_thing_right.F.kp D__law_thing_right.b .nil pass0 (pa_cons (pv 2) pa_nil)))) (pss_one (ps_ret (pe_bl))) pss_nil)))
      (pss_cons (ps_for PassesOwn.never rfl (pi_range1 (by rfl) T.b_range (pa_cons (pe_callB (r := rLenQ K) call_len_seq (by rfl) T.b_len (by decide +kernel) (pa_cons (pv 1) pa_nil)) pa_nil)) (pg_name (i := 3) nd rfl (Or.inl rfl))
      (pss_cons (ps_set (i := 4) nd rfl (Or.inl rfl) (pe_call G__law_box (hr.mono (by omega)) (by rfl) D__law_box.g D__law_box.F.kp D__law_box.b .nil pass0 (pa_cons (pv 1) (pa_cons (pv 3) pa_nil))))
      (pss_one (ps_for PassesOwn.never rfl (pi_range1 (by rfl) T.b_range (pa_cons (pe_int) pa_nil)) (pg_name (i := 5) nd rfl (Or.inl rfl))
      (pss_cons (ps_par (i := 6) (j := 7) (by rfl) nd rfl rfl (by decide) rfl rfl (pa_cons (pe_call G__law_world (hr.mono (by omega)) (by rfl) D__law_world.g D__law_world.F.kp D__law_world.b .nil pass0 (pa_cons (pv 4) pa_nil)) (pa_cons (pe_op op_add (pe_int) (pe_call G__law_take (hr.mono (by omega)) (by rfl) D__law_take.g D__law_take.F.kp D__law_take.b .nil pass0 (pa_cons (pv 4) (pa_cons (pe_ix (r := rIxL K) ix_list (pe_lst (pa_cons (pe_int) (pa_cons (pe_int) (pa_cons (pe_int) pa_nil)))) (pe_call G__law_take (hr.mono (by omega)) (by rfl) D__law_take.g D__law_take.F.kp D__law_take.b .nil pass0 (pa_cons (pv 4) (pa_cons (pe_int) pa_nil))) (fun _ _ => rfl)) pa_nil)))) pa_nil)) (by rfl))
      (pss_cons (ps_set (i := 8) nd rfl (Or.inl rfl) (pe_ifExp (pt_cmpR op_eq (pe_op op_mod (pv 5) (pe_int)) (pe_int) (nomark _)) (pe_call G__law_row (hr.mono (by omega)) (by rfl) D__law_row.g D__law_row.F.kp D__law_row.b .nil pass0 (pa_cons (pv 4) (pa_cons (pv 6) (pa_cons (pv 7) pa_nil)))) (pe_call G__law_things (hr.mono (by omega)) (by rfl) D__law_things.g D__law_things.F.kp D__law_things.b .nil pass0 (pa_cons (pv 4) (pa_cons (pv 7) pa_nil)))))
      (pss_one (ps_if (pt_not (pt_val (pe_callG G__law_right hgd (hr.mono (by omega)) (by rfl) D__law_right.g D__law_right.F.kp D__law_right.b .nil pass0 (pa_cons (pv 4) (pa_cons (pv 8) pa_nil))))) (pss_one (ps_ret (pe_bl))) pss_nil))))))))
      (pss_one (ps_ret (pe_bl)))))), ?_⟩
    walk_at "ev"
    intro ce cs H1 hc1 hc4 hce0 sm1 hce
    have hLc : SqL K H1 ce (cs.map V.int) := SqL.of hce
    walk_at "ev"
    w_cond _2
    walk_at "ev"
    w_cond _3
    walk_at "ev"
    w_cond _4
    walk_at "ev"
    w_cond _5
    walk_at "ev"
    w_cond _6
    walk_at "ev"
    w_cond _7
    walk_at "ev"
    w_cond _8
    walk_at "ev"
    w_cond _9
    walk_at "ev"
    w_cond _10
    walk_at "ev"
    w_cond _11
    walk_at "ev"
    w_cond _12
    walk_at "ev"
    w_cond _13
    walk_at "ev"
    w_cond _14
    have e14 : Same H14 H14 := Same.refl _
    have e13 := sm14.trans e14
    have e12 := sm13.trans e13
    have e11 := sm12.trans e12
    have e10 := sm11.trans e11
    have e9 := sm10.trans e10
    have e8 := sm9.trans e9
    have e7 := sm8.trans e8
    have e6 := sm7.trans e7
    have e5 := sm6.trans e6
    have e4 := sm5.trans e5
    have e3 := sm4.trans e4
    have e2 := sm3.trans e3
    have e1 := sm2.trans e2
    have n2 := e2 _ _ hq2
    have n3 := e3 _ _ hq3
    have n4 := e4 _ _ hq4
    have n5 := e5 _ _ hq5
    have n6 := e6 _ _ hq6
    have n7 := e7 _ _ hq7
    have n8 := e8 _ _ hq8
    have n9 := e9 _ _ hq9
    have n10 := e10 _ _ hq10
    have n11 := e11 _ _ hq11
    have n12 := e12 _ _ hq12
    have n13 := e13 _ _ hq13
    have hall : ∀ v ∈ [V.non, V.int 0, V.bl true, V.str "ab", V.str "", V.ref l2, V.ref l3, V.ref l4, V.ref l5, V.ref l6, V.ref l9, V.ref l10, V.ref l11, V.ref l13], ∃ d, Dp K H14 v d ∧ Sm 200000 6 d ∧ Fit 4 d := by
      intro v hv
      simp only [List.cons_append, List.nil_append, List.mem_cons, List.not_mem_nil, or_false] at hv
      rcases hv with z | z | z | z | z | z | z | z | z | z | z | z | z | z <;> subst z
      · exact ⟨.none, .non, sf_lit (by decide +kernel)⟩
      · exact ⟨(.int (0)), (.int (0)), sf_lit (by decide +kernel)⟩
      · exact ⟨(.bool true), (.bl true), sf_lit (by decide +kernel)⟩
      · exact ⟨(.str "ab"), (.str "ab"), sf_lit (by decide +kernel)⟩
      · exact ⟨(.str ""), (.str ""), sf_lit (by decide +kernel)⟩
      · exact ⟨(.tuple []), (.tup (SqT.of n2) .nil), sf_lit (by decide +kernel)⟩
      · exact ⟨(.tuple [(.int (1)), (.int (1))]), (.tup (SqT.of n3) (.cons (.int (1)) (.cons (.int (1)) .nil))), sf_lit (by decide +kernel)⟩
      · exact ⟨(.list []), (.lst (SqL.of n4) .nil), sf_lit (by decide +kernel)⟩
      · exact ⟨(.list [(.int (1))]), (.lst (SqL.of n5) (.cons (.int (1)) .nil)), sf_lit (by decide +kernel)⟩
      · exact ⟨(.list [(.int (1)), (.int (2))]), (.lst (SqL.of n6) (.cons (.int (1)) (.cons (.int (2)) .nil))), sf_lit (by decide +kernel)⟩
      · exact ⟨(.list [(.list []), (.tuple [])]), (.lst (SqL.of n9) (.cons (.lst (SqL.of n7) .nil) (.cons (.tup (SqT.of n8) .nil) .nil))), sf_lit (by decide +kernel)⟩
      · exact ⟨(.list [(.int (1)), (.int (2)), (.int (3)), (.int (2))]), (.lst (SqL.of n10) (.cons (.int (1)) (.cons (.int (2)) (.cons (.int (3)) (.cons (.int (2)) .nil))))), sf_lit (by decide +kernel)⟩
      · exact ⟨(.list [(.int (1)), (.bool true), (.int (3)), (.int (1))]), (.lst (SqL.of n11) (.cons (.int (1)) (.cons (.bl true) (.cons (.int (3)) (.cons (.int (1)) .nil))))), sf_lit (by decide +kernel)⟩
      · exact ⟨(.list [(.tuple [])]), (.lst (SqL.of n13) (.cons (.tup (SqT.of n12) .nil) .nil)), sf_lit (by decide +kernel)⟩
    clear n2 hq2 n3 hq3 n4 hq4 n5 hq5 n6 hq6 n7 hq7 n8 hq8 n9 hq9 n10 hq10 n11 hq11 n12 hq12 n13 hq13
    generalize [V.non, V.int 0, V.bl true, V.str "ab", V.str "", V.ref l2, V.ref l3, V.ref l4, V.ref l5, V.ref l6, V.ref l9, V.ref l10, V.ref l11, V.ref l13] = X at *
    have hT := SqT.of (K := K) hq14
    have hce2 := e1 _ _ hce
    refine ⟨l14, rfl, ⟨_, hT⟩, ?_⟩
    refine for_tup (K := K) (a := l14) (xs := X) (fun i σ H' => Hold (∃ y2, σ = [some (.ref a), some (.ref ce), y2, none, none, none, none, none, none] ∧ Same H14 H')) (.mk ⟨_, rfl, Same.refl _⟩) ?_ ?_ ?_
    · intro i σ H3' hi hP
      obtain ⟨y2, rfl, sm3'⟩ := hP.un
      exact same_t sm3' hT
    · intro i u σ H3' hu hP
      obtain ⟨y2, rfl, sm3'⟩ := hP.un
      obtain ⟨d, hd, hd1, hd2⟩ := hall u (List.mem_of_getElem? hu)
      have hd' := dp_same sm3' hd
      walk_at "ev"
      intro H4' sm4'
      walk_at "ev"
      exact .mk ⟨_, rfl, sm3'.trans sm4'⟩
    intro σ Ha hP
    obtain ⟨y2, rfl, sma⟩ := hP.un
    have hcea := sma _ _ hce2
    clear hall hP
    have hLca := SqL.of (K := K) hcea
    walk_at "ev"
    refine for_range (lo := 0) (n := _) (fun i σ H' => Hold (∃ s3 s4 s5 s6 s7 s8, σ = [some (.ref a), some (.ref ce), y2, s3, s4, s5, s6, s7, s8] ∧ Same Ha H')) (.mk ⟨none, none, none, none, none, none, rfl, Same.refl _⟩) ?_ ?_
    · intro i σ Hb hi hP
      obtain ⟨s3, s4, s5, s6, s7, s8, rfl, smb⟩ := hP.un
      have hi4 : i < 5 := by
        have : ((cs.map V.int).length : Int).toNat = cs.length := by rw [List.length_map]; rfl
        omega
      have hLc2 := smb.seq hLca
      walk_at "ev"
      intro b Hc hb0 smc hbx
      have hbf : Ha b = none := smb.free hb0
      walk_at "ev"
      refine for_range (lo := 0) (n := _) (fun j σ H' => Hold (∃ s5 s6 s7 s8, σ = [some (.ref a), some (.ref ce), y2, some (.int (0 + (i : Int))), some (.ref b), s5, s6, s7, s8] ∧ Keep b Hc H' ∧ BoxAt H' b (9100 * (j : Int)))) (.mk ⟨_, _, _, _, rfl, Keep.refl _ _, hbx.mono (by omega)⟩) ?_ ?_
      · intro j σ Hd hj hP2
        obtain ⟨t5, t6, t7, t8, rfl, kd, hbd⟩ := hP2.un
        have hj6 : j < 6 := hj
        have hjb : (9100 : Int) * j < 900000 := by omega
        walk_at "ev"
        intro wd He hwd0 ke hbe hwd
        walk_at "ev"
        w_cond _40
        have hb40 := hbe.same sm40
        have n40b := hbe.ne hl40
        walk_at "ev"
        intro r1 H41 r10 r11 k41 hb41
        have hL41 := SqL.of (K := K) (k41 _ _ n40b hq40)
        obtain ⟨t, ht, hat⟩ : ∃ t : Int, (3 ≤ t ∧ t ≤ 30) ∧ atI [V.int 3, V.int 8, V.int 30] r1 = some (.int t) := by
          have : r1 = 0 ∨ r1 = 1 ∨ r1 = 2 := by omega
          rcases this with z | z | z <;> subst z
          · exact ⟨3, by omega, rfl⟩
          · exact ⟨8, by omega, rfl⟩
          · exact ⟨30, by omega, rfl⟩
        obtain ⟨t1, t2⟩ := ht
        walk_at "ev"
        intro r2 H42 r20 r21 k42 hb42
        have ke42 : Keep b He H42 := (keepS sm40).trans (k41.trans k42)
        have hw42 := hwd.keep ke42
        have kc42 : Keep b Hc H42 := kd.trans (ke.trans ke42)
        walk_at "ev"
        refine ite2 (fun c => ?_) (fun c => ?_)
        · walk_at "ev"
          intro p xs H43 hp43 k43 hb43 hxl hxs hq43
          obtain ⟨es, ees, hes⟩ := es_all (K := K) (B := 2000) fun v hv => el_wv (hxs v hv) hq43 hb43
          subst ees
          rw [List.length_map] at hxl
          have npb : p ≠ b := hb42.ne hp43
          have le2 : 2 ≤ es.length := by omega
          have le31 : es.length ≤ 31 := by omega
          have hbn : (9100 : Int) * j + 4 + 1 + 1 + 9000 < 700000 := by omega
          walk_at "ev"
          intro H44 k44 hb44
          walk_at "ev"
          exact .mk ⟨_, _, _, _, rfl, kc42.trans (k43.trans k44), hb44.mono (by omega)⟩
        · walk_at "ev"
          intro p es H43 hp43 k43 hb43 hxl hes hq43
          have npb : p ≠ b := hb42.ne hp43
          have le2 : 2 ≤ es.length := by omega
          have le31 : es.length ≤ 31 := by omega
          have hbn : (9100 : Int) * j + 4 + 1 + 1 + 9000 < 700000 := by omega
          walk_at "ev"
          intro H44 k44 hb44
          walk_at "ev"
          exact .mk ⟨_, _, _, _, rfl, kc42.trans (k43.trans k44), hb44.mono (by omega)⟩
      · intro σ Hd hP2
        obtain ⟨t5, t6, t7, t8, rfl, kd, hbd⟩ := hP2.un
        walk_at "ev"
        exact .mk ⟨_, _, _, _, _, _, rfl, keep_same (smb.trans smc) hbf kd⟩
    · intro σ Hb hP
      obtain ⟨s3, s4, s5, s6, s7, s8, rfl, smb⟩ := hP.un
      walk_at "ev"
      exact q _
end
theorem all_mk {l : PySem.W.OpenLaw} {w : World} {K : PySem.W.Frag} {h : Heap} {mg : Str → Option Value} {fa : Addr} (X : K.In h) (G : h.Ns mainGlobals mg) (hfa : mg "law" = some (.ref fa))
    {od0 an0 : Option Addr} {sl0 : Array (Option Value)} {oc0 kV0 dc0 pm0 cd0 ct0 : Value} {f0 : Addr}
    {od1 an1 : Option Addr} {sl1 : Array (Option Value)} {oc1 kV1 dc1 pm1 cd1 ct1 : Value} {f1 : Addr}
    {od2 an2 : Option Addr} {sl2 : Array (Option Value)} {oc2 kV2 dc2 pm2 cd2 ct2 : Value} {f2 : Addr}
    {od3 an3 : Option Addr} {sl3 : Array (Option Value)} {oc3 kV3 dc3 pm3 cd3 ct3 : Value} {f3 : Addr}
    {od4 an4 : Option Addr} {sl4 : Array (Option Value)} {oc4 kV4 dc4 pm4 cd4 ct4 : Value} {f4 : Addr}
    {od5 an5 : Option Addr} {sl5 : Array (Option Value)} {oc5 kV5 dc5 pm5 cd5 ct5 : Value} {f5 : Addr}
    {od6 an6 : Option Addr} {sl6 : Array (Option Value)} {oc6 kV6 dc6 pm6 cd6 ct6 : Value} {f6 : Addr}
    {od7 an7 : Option Addr} {sl7 : Array (Option Value)} {oc7 kV7 dc7 pm7 cd7 ct7 : Value} {f7 : Addr}
    {od8 an8 : Option Addr} {sl8 : Array (Option Value)} {oc8 kV8 dc8 pm8 cd8 ct8 : Value} {f8 : Addr}
    {od9 an9 : Option Addr} {sl9 : Array (Option Value)} {oc9 kV9 dc9 pm9 cd9 ct9 : Value} {f9 : Addr}
    {od10 an10 : Option Addr} {sl10 : Array (Option Value)} {oc10 kV10 dc10 pm10 cd10 ct10 : Value} {f10 : Addr}
    {od11 an11 : Option Addr} {sl11 : Array (Option Value)} {oc11 kV11 dc11 pm11 cd11 ct11 : Value} {f11 : Addr}
    {od12 an12 : Option Addr} {sl12 : Array (Option Value)} {oc12 kV12 dc12 pm12 cd12 ct12 : Value} {f12 : Addr}
    {od13 an13 : Option Addr} {sl13 : Array (Option Value)} {oc13 kV13 dc13 pm13 cd13 ct13 : Value} {f13 : Addr}
    {od14 an14 : Option Addr} {sl14 : Array (Option Value)} {oc14 kV14 dc14 pm14 cd14 ct14 : Value} {f14 : Addr}
    {od15 an15 : Option Addr} {sl15 : Array (Option Value)} {oc15 kV15 dc15 pm15 cd15 ct15 : Value} {f15 : Addr}
    {od16 an16 : Option Addr} {sl16 : Array (Option Value)} {oc16 kV16 dc16 pm16 cd16 ct16 : Value} {f16 : Addr}
    {od17 an17 : Option Addr} {sl17 : Array (Option Value)} {oc17 kV17 dc17 pm17 cd17 ct17 : Value} {f17 : Addr}
    {od18 an18 : Option Addr} {sl18 : Array (Option Value)} {oc18 kV18 dc18 pm18 cd18 ct18 : Value} {f18 : Addr}
    {od19 an19 : Option Addr} {sl19 : Array (Option Value)} {oc19 kV19 dc19 pm19 cd19 ct19 : Value} {f19 : Addr}
    {od20 an20 : Option Addr} {sl20 : Array (Option Value)} {oc20 kV20 dc20 pm20 cd20 ct20 : Value} {f20 : Addr}
    {od21 an21 : Option Addr} {sl21 : Array (Option Value)} {oc21 kV21 dc21 pm21 cd21 ct21 : Value} {f21 : Addr}
    {od22 an22 : Option Addr} {sl22 : Array (Option Value)} {oc22 kV22 dc22 pm22 cd22 ct22 : Value} {f22 : Addr}
    {od23 an23 : Option Addr} {sl23 : Array (Option Value)} {oc23 kV23 dc23 pm23 cd23 ct23 : Value} {f23 : Addr}
    {od24 an24 : Option Addr} {sl24 : Array (Option Value)} {oc24 kV24 dc24 pm24 cd24 ct24 : Value} {f24 : Addr}
    {od25 an25 : Option Addr} {sl25 : Array (Option Value)} {oc25 kV25 dc25 pm25 cd25 ct25 : Value} {f25 : Addr}
    {od26 an26 : Option Addr} {sl26 : Array (Option Value)} {oc26 kV26 dc26 pm26 cd26 ct26 : Value} {f26 : Addr}
    {od27 an27 : Option Addr} {sl27 : Array (Option Value)} {oc27 kV27 dc27 pm27 cd27 ct27 : Value} {f27 : Addr}
    {od28 an28 : Option Addr} {sl28 : Array (Option Value)} {oc28 kV28 dc28 pm28 cd28 ct28 : Value} {f28 : Addr}
    {od29 an29 : Option Addr} {sl29 : Array (Option Value)} {oc29 kV29 dc29 pm29 cd29 ct29 : Value} {f29 : Addr}
    {fI : Addr} {odI anI : Option Addr} {slI : Array (Option Value)} {ocI kVI dcI pmI cdI ctI : Value}
    {C_TurnError : Addr}
    {C_NoInverse : Addr}
    {C_NotCoprime : Addr}
    {C_BadGround : Addr}
    {C_NoRoot : Addr}
    {C_NoShare : Addr}
    {C_BadLength : Addr}
    {C_BadText : Addr}
    {C_TooSmall : Addr}
    {C_NotEven : Addr}
    {nm_NotEven q_NotEven : Str} {N_NotEven : Addr} {bs_NotEven : List Value} {sn_NotEven : List Str} {sb_NotEven : List Value} {ab_NotEven : Bool} {co_NotEven : Option Bool} {dd_NotEven : Option Addr} {m0_NotEven m1_NotEven m2_NotEven m3_NotEven m5_NotEven : Option Value}
    (g_TurnError : PySem.W.nsIn K mainGlobals "TurnError" = some (some (.ref C_TurnError)))
    (g_NoInverse : PySem.W.nsIn K mainGlobals "NoInverse" = some (some (.ref C_NoInverse)))
    (g_NotCoprime : PySem.W.nsIn K mainGlobals "NotCoprime" = some (some (.ref C_NotCoprime)))
    (g_BadGround : PySem.W.nsIn K mainGlobals "BadGround" = some (some (.ref C_BadGround)))
    (g_NoRoot : PySem.W.nsIn K mainGlobals "NoRoot" = some (some (.ref C_NoRoot)))
    (g_NoShare : PySem.W.nsIn K mainGlobals "NoShare" = some (some (.ref C_NoShare)))
    (g_BadLength : PySem.W.nsIn K mainGlobals "BadLength" = some (some (.ref C_BadLength)))
    (g_BadText : PySem.W.nsIn K mainGlobals "BadText" = some (some (.ref C_BadText)))
    (g_TooSmall : PySem.W.nsIn K mainGlobals "TooSmall" = some (some (.ref C_TooSmall)))
    (g_NotEven : PySem.W.nsIn K mainGlobals "NotEven" = some (some (.ref C_NotEven)))
    (on : PySem.W.specialIn K (.builtin "object.__class__") "__get__" = some (some (.builtin "getset_descriptor.__get__")))
    (ot : PySem.W.takesIn K (.builtin "object.__class__") = some true)
    (eT : PySem.W.subIn K (.ref C_TurnError) (.type "BaseException") = some true)
    (hT : PySem.W.hasDictIn K C_TurnError = true)
    (tT : PySem.W.typeIn K (.ref C_TurnError) = some (.type "type"))
    (xL_NotEven : K.lookup C_NotEven = some (excClassObj nm_NotEven q_NotEven C_NotEven N_NotEven bs_NotEven [.ref C_TurnError, .type "ValueError", .type "Exception", .type "BaseException", .type "object"] true sn_NotEven sb_NotEven ab_NotEven co_NotEven dd_NotEven m0_NotEven m1_NotEven m2_NotEven m3_NotEven m5_NotEven "ValueError.__new__"))
    (sa_NotEven : PySem.W.findIn K (.ref C_NotEven) "__setattr__" = some (some (.builtin "object.__setattr__")))
    (ga_NotEven : PySem.W.findIn K (.ref C_NotEven) "__getattribute__" = some (some (.builtin "BaseException.__getattribute__")))
    (gg_NotEven : PySem.W.findIn K (.ref C_NotEven) "__getattr__" = some none)
    (nw_NotEven : PySem.W.findIn K (.ref C_NotEven) "what" = some none)
    (ii_NotEven : PySem.W.findIn K (.ref C_NotEven) "__init__" = some (some (.ref fI)))
    (oc_NotEven : PySem.W.findIn K (.ref C_NotEven) "__class__" = some (some (.builtin "object.__class__")))
    (kC_NotEven : PySem.W.keepIn K (.ref C_NotEven) = true)
    (eC_NotEven : PySem.W.subIn K (.ref C_NotEven) (.type "BaseException") = some true)
    (tC_NotEven : PySem.W.typeIn K (.ref C_NotEven) = some (.type "type"))
    (hC_NotEven : PySem.W.hasDictIn K C_NotEven = true)
    (mo_NotEven : PySem.W.mroIn K C_NotEven (.type "object") = some true)
    (su_NotEven : PySem.W.subIn K (.ref C_NotEven) (.ref C_TurnError) = some true)
    (kv_NotEven : PySem.W.kitOne K (.ref C_NotEven) (.type "ValueError") = some true)
    (kt_NotEven : PySem.W.kitOne K (.ref C_NotEven) (.ref C_TurnError) = some true)
    (lI : K.lookup fI = some ⟨ocI, odI, .func (PySem.W.fnOf "__init__" "TurnError.__init__" (defArgs s_init) (defBody s_init) (defScope s_init) .none kVI dcI pmI anI cdI ctI), slI⟩)
    (cI : PySem.W.codeIn K cdI "TurnError.__init__" = true)
    (kI : PySem.W.keepIn K (.ref fI) = true)
    (tI : PySem.W.typeIn K (.ref fI) = some (.type "function"))
    (fke : PySem.W.kitOne K (.ref C_NotEven) (.ref C_NotEven) = some true)
    (fk1 : PySem.W.kitOne K (.ref C_NotEven) (.ref C_BadGround) = some false)
    (fk2 : PySem.W.kitOne K (.ref C_NotEven) (.ref C_BadLength) = some false)
    (fk3 : PySem.W.kitOne K (.ref C_NotEven) (.ref C_NoRoot) = some false)
    (fk4 : PySem.W.kitOne K (.ref C_NotEven) (.ref C_NotCoprime) = some false)
    (fk5 : PySem.W.kitOne K (.ref C_NotEven) (.ref C_TooSmall) = some false)
    (fk6 : PySem.W.kitOne K (.ref C_NotEven) (.ref C_NoShare) = some false)
    (fk7 : PySem.W.kitOne K (.ref C_NotEven) (.ref C_BadText) = some false)
    (fk8 : PySem.W.kitOne K (.ref C_NotEven) (.ref C_NoInverse) = some false)
    (a0 : PySem.W.nsIn K mainGlobals "are_alike" = some (some (.ref f0))) (l0 : K.lookup f0 = some ⟨oc0, od0, .func (PySem.W.fnOf "are_alike" "are_alike" (defArgs s_are_alike) (defBody s_are_alike) (defScope s_are_alike) .none kV0 dc0 pm0 an0 cd0 ct0), sl0⟩) (c0 : PySem.W.codeIn K cd0 "are_alike" = true) (k0 : PySem.W.keepIn K (.ref f0) = true)
    (a1 : PySem.W.nsIn K mainGlobals "first_unlike" = some (some (.ref f1))) (l1 : K.lookup f1 = some ⟨oc1, od1, .func (PySem.W.fnOf "first_unlike" "first_unlike" (defArgs s_first_unlike) (defBody s_first_unlike) (defScope s_first_unlike) .none kV1 dc1 pm1 an1 cd1 ct1), sl1⟩) (c1 : PySem.W.codeIn K cd1 "first_unlike" = true) (k1 : PySem.W.keepIn K (.ref f1) = true)
    (a2 : PySem.W.nsIn K mainGlobals "is_even" = some (some (.ref f2))) (l2 : K.lookup f2 = some ⟨oc2, od2, .func (PySem.W.fnOf "is_even" "is_even" (defArgs s_is_even) (defBody s_is_even) (defScope s_is_even) .none kV2 dc2 pm2 an2 cd2 ct2), sl2⟩) (c2 : PySem.W.codeIn K cd2 "is_even" = true) (k2 : PySem.W.keepIn K (.ref f2) = true)
    (a3 : PySem.W.nsIn K mainGlobals "half_of" = some (some (.ref f3))) (l3 : K.lookup f3 = some ⟨oc3, od3, .func (PySem.W.fnOf "half_of" "half_of" (defArgs s_half_of) (defBody s_half_of) (defScope s_half_of) .none kV3 dc3 pm3 an3 cd3 ct3), sl3⟩) (c3 : PySem.W.codeIn K cd3 "half_of" = true) (k3 : PySem.W.keepIn K (.ref f3) = true)
    (a4 : PySem.W.nsIn K mainGlobals "even_from" = some (some (.ref f4))) (l4 : K.lookup f4 = some ⟨oc4, od4, .func (PySem.W.fnOf "even_from" "even_from" (defArgs s_even_from) (defBody s_even_from) (defScope s_even_from) .none kV4 dc4 pm4 an4 cd4 ct4), sl4⟩) (c4 : PySem.W.codeIn K cd4 "even_from" = true) (k4 : PySem.W.keepIn K (.ref f4) = true)
    (a5 : PySem.W.nsIn K mainGlobals "_law_box" = some (some (.ref f5))) (l5 : K.lookup f5 = some ⟨oc5, od5, .func (PySem.W.fnOf "_law_box" "_law_box" (defArgs s__law_box) (defBody s__law_box) (defScope s__law_box) .none kV5 dc5 pm5 an5 cd5 ct5), sl5⟩) (c5 : PySem.W.codeIn K cd5 "_law_box" = true) (k5 : PySem.W.keepIn K (.ref f5) = true)
    (a6 : PySem.W.nsIn K mainGlobals "_law_take" = some (some (.ref f6))) (l6 : K.lookup f6 = some ⟨oc6, od6, .func (PySem.W.fnOf "_law_take" "_law_take" (defArgs s__law_take) (defBody s__law_take) (defScope s__law_take) .none kV6 dc6 pm6 an6 cd6 ct6), sl6⟩) (c6 : PySem.W.codeIn K cd6 "_law_take" = true) (k6 : PySem.W.keepIn K (.ref f6) = true)
    (a7 : PySem.W.nsIn K mainGlobals "_law_pick" = some (some (.ref f7))) (l7 : K.lookup f7 = some ⟨oc7, od7, .func (PySem.W.fnOf "_law_pick" "_law_pick" (defArgs s__law_pick) (defBody s__law_pick) (defScope s__law_pick) .none kV7 dc7 pm7 an7 cd7 ct7), sl7⟩) (c7 : PySem.W.codeIn K cd7 "_law_pick" = true) (k7 : PySem.W.keepIn K (.ref f7) = true)
    (a8 : PySem.W.nsIn K mainGlobals "_law_folded" = some (some (.ref f8))) (l8 : K.lookup f8 = some ⟨oc8, od8, .func (PySem.W.fnOf "_law_folded" "_law_folded" (defArgs s__law_folded) (defBody s__law_folded) (defScope s__law_folded) .none kV8 dc8 pm8 an8 cd8 ct8), sl8⟩) (c8 : PySem.W.codeIn K cd8 "_law_folded" = true) (k8 : PySem.W.keepIn K (.ref f8) = true)
    (a9 : PySem.W.nsIn K mainGlobals "_law_same" = some (some (.ref f9))) (l9 : K.lookup f9 = some ⟨oc9, od9, .func (PySem.W.fnOf "_law_same" "_law_same" (defArgs s__law_same) (defBody s__law_same) (defScope s__law_same) .none kV9 dc9 pm9 an9 cd9 ct9), sl9⟩) (c9 : PySem.W.codeIn K cd9 "_law_same" = true) (k9 : PySem.W.keepIn K (.ref f9) = true)
    (a10 : PySem.W.nsIn K mainGlobals "_law_is_plain_prime" = some (some (.ref f10))) (l10 : K.lookup f10 = some ⟨oc10, od10, .func (PySem.W.fnOf "_law_is_plain_prime" "_law_is_plain_prime" (defArgs s__law_is_plain_prime) (defBody s__law_is_plain_prime) (defScope s__law_is_plain_prime) .none kV10 dc10 pm10 an10 cd10 ct10), sl10⟩) (c10 : PySem.W.codeIn K cd10 "_law_is_plain_prime" = true) (k10 : PySem.W.keepIn K (.ref f10) = true)
    (a11 : PySem.W.nsIn K mainGlobals "_law_least_generator" = some (some (.ref f11))) (l11 : K.lookup f11 = some ⟨oc11, od11, .func (PySem.W.fnOf "_law_least_generator" "_law_least_generator" (defArgs s__law_least_generator) (defBody s__law_least_generator) (defScope s__law_least_generator) .none kV11 dc11 pm11 an11 cd11 ct11), sl11⟩) (c11 : PySem.W.codeIn K cd11 "_law_least_generator" = true) (k11 : PySem.W.keepIn K (.ref f11) = true)
    (a12 : PySem.W.nsIn K mainGlobals "_law_divided" = some (some (.ref f12))) (l12 : K.lookup f12 = some ⟨oc12, od12, .func (PySem.W.fnOf "_law_divided" "_law_divided" (defArgs s__law_divided) (defBody s__law_divided) (defScope s__law_divided) .none kV12 dc12 pm12 an12 cd12 ct12), sl12⟩) (c12 : PySem.W.codeIn K cd12 "_law_divided" = true) (k12 : PySem.W.keepIn K (.ref f12) = true)
    (a13 : PySem.W.nsIn K mainGlobals "_law_own_wheel" = some (some (.ref f13))) (l13 : K.lookup f13 = some ⟨oc13, od13, .func (PySem.W.fnOf "_law_own_wheel" "_law_own_wheel" (defArgs s__law_own_wheel) (defBody s__law_own_wheel) (defScope s__law_own_wheel) .none kV13 dc13 pm13 an13 cd13 ct13), sl13⟩) (c13 : PySem.W.codeIn K cd13 "_law_own_wheel" = true) (k13 : PySem.W.keepIn K (.ref f13) = true)
    (a14 : PySem.W.nsIn K mainGlobals "_law_world" = some (some (.ref f14))) (l14 : K.lookup f14 = some ⟨oc14, od14, .func (PySem.W.fnOf "_law_world" "_law_world" (defArgs s__law_world) (defBody s__law_world) (defScope s__law_world) .none kV14 dc14 pm14 an14 cd14 ct14), sl14⟩) (c14 : PySem.W.codeIn K cd14 "_law_world" = true) (k14 : PySem.W.keepIn K (.ref f14) = true)
    (a15 : PySem.W.nsIn K mainGlobals "_law_worth" = some (some (.ref f15))) (l15 : K.lookup f15 = some ⟨oc15, od15, .func (PySem.W.fnOf "_law_worth" "_law_worth" (defArgs s__law_worth) (defBody s__law_worth) (defScope s__law_worth) .none kV15 dc15 pm15 an15 cd15 ct15), sl15⟩) (c15 : PySem.W.codeIn K cd15 "_law_worth" = true) (k15 : PySem.W.keepIn K (.ref f15) = true)
    (a16 : PySem.W.nsIn K mainGlobals "_law_row" = some (some (.ref f16))) (l16 : K.lookup f16 = some ⟨oc16, od16, .func (PySem.W.fnOf "_law_row" "_law_row" (defArgs s__law_row) (defBody s__law_row) (defScope s__law_row) .none kV16 dc16 pm16 an16 cd16 ct16), sl16⟩) (c16 : PySem.W.codeIn K cd16 "_law_row" = true) (k16 : PySem.W.keepIn K (.ref f16) = true)
    (a17 : PySem.W.nsIn K mainGlobals "_law_named_error" = some (some (.ref f17))) (l17 : K.lookup f17 = some ⟨oc17, od17, .func (PySem.W.fnOf "_law_named_error" "_law_named_error" (defArgs s__law_named_error) (defBody s__law_named_error) (defScope s__law_named_error) .none kV17 dc17 pm17 an17 cd17 ct17), sl17⟩) (c17 : PySem.W.codeIn K cd17 "_law_named_error" = true) (k17 : PySem.W.keepIn K (.ref f17) = true)
    (a18 : PySem.W.nsIn K mainGlobals "_law_even_row" = some (some (.ref f18))) (l18 : K.lookup f18 = some ⟨oc18, od18, .func (PySem.W.fnOf "_law_even_row" "_law_even_row" (defArgs s__law_even_row) (defBody s__law_even_row) (defScope s__law_even_row) .none kV18 dc18 pm18 an18 cd18 ct18), sl18⟩) (c18 : PySem.W.codeIn K cd18 "_law_even_row" = true) (k18 : PySem.W.keepIn K (.ref f18) = true)
    (a19 : PySem.W.nsIn K mainGlobals "_law_raised" = some (some (.ref f19))) (l19 : K.lookup f19 = some ⟨oc19, od19, .func (PySem.W.fnOf "_law_raised" "_law_raised" (defArgs s__law_raised) (defBody s__law_raised) (defScope s__law_raised) .none kV19 dc19 pm19 an19 cd19 ct19), sl19⟩) (c19 : PySem.W.codeIn K cd19 "_law_raised" = true) (k19 : PySem.W.keepIn K (.ref f19) = true)
    (a20 : PySem.W.nsIn K mainGlobals "_law_bad_place" = some (some (.ref f20))) (l20 : K.lookup f20 = some ⟨oc20, od20, .func (PySem.W.fnOf "_law_bad_place" "_law_bad_place" (defArgs s__law_bad_place) (defBody s__law_bad_place) (defScope s__law_bad_place) .none kV20 dc20 pm20 an20 cd20 ct20), sl20⟩) (c20 : PySem.W.codeIn K cd20 "_law_bad_place" = true) (k20 : PySem.W.keepIn K (.ref f20) = true)
    (a21 : PySem.W.nsIn K mainGlobals "_law_due" = some (some (.ref f21))) (l21 : K.lookup f21 = some ⟨oc21, od21, .func (PySem.W.fnOf "_law_due" "_law_due" (defArgs s__law_due) (defBody s__law_due) (defScope s__law_due) .none kV21 dc21 pm21 an21 cd21 ct21), sl21⟩) (c21 : PySem.W.codeIn K cd21 "_law_due" = true) (k21 : PySem.W.keepIn K (.ref f21) = true)
    (a22 : PySem.W.nsIn K mainGlobals "_law_told" = some (some (.ref f22))) (l22 : K.lookup f22 = some ⟨oc22, od22, .func (PySem.W.fnOf "_law_told" "_law_told" (defArgs s__law_told) (defBody s__law_told) (defScope s__law_told) .none kV22 dc22 pm22 an22 cd22 ct22), sl22⟩) (c22 : PySem.W.codeIn K cd22 "_law_told" = true) (k22 : PySem.W.keepIn K (.ref f22) = true)
    (a23 : PySem.W.nsIn K mainGlobals "_law_is_so" = some (some (.ref f23))) (l23 : K.lookup f23 = some ⟨oc23, od23, .func (PySem.W.fnOf "_law_is_so" "_law_is_so" (defArgs s__law_is_so) (defBody s__law_is_so) (defScope s__law_is_so) .none kV23 dc23 pm23 an23 cd23 ct23), sl23⟩) (c23 : PySem.W.codeIn K cd23 "_law_is_so" = true) (k23 : PySem.W.keepIn K (.ref f23) = true)
    (a24 : PySem.W.nsIn K mainGlobals "_law_things" = some (some (.ref f24))) (l24 : K.lookup f24 = some ⟨oc24, od24, .func (PySem.W.fnOf "_law_things" "_law_things" (defArgs s__law_things) (defBody s__law_things) (defScope s__law_things) .none kV24 dc24 pm24 an24 cd24 ct24), sl24⟩) (c24 : PySem.W.codeIn K cd24 "_law_things" = true) (k24 : PySem.W.keepIn K (.ref f24) = true)
    (a25 : PySem.W.nsIn K mainGlobals "_law_bent" = some (some (.ref f25))) (l25 : K.lookup f25 = some ⟨oc25, od25, .func (PySem.W.fnOf "_law_bent" "_law_bent" (defArgs s__law_bent) (defBody s__law_bent) (defScope s__law_bent) .none kV25 dc25 pm25 an25 cd25 ct25), sl25⟩) (c25 : PySem.W.codeIn K cd25 "_law_bent" = true) (k25 : PySem.W.keepIn K (.ref f25) = true)
    (a26 : PySem.W.nsIn K mainGlobals "_law_is_row" = some (some (.ref f26))) (l26 : K.lookup f26 = some ⟨oc26, od26, .func (PySem.W.fnOf "_law_is_row" "_law_is_row" (defArgs s__law_is_row) (defBody s__law_is_row) (defScope s__law_is_row) .none kV26 dc26 pm26 an26 cd26 ct26), sl26⟩) (c26 : PySem.W.codeIn K cd26 "_law_is_row" = true) (k26 : PySem.W.keepIn K (.ref f26) = true)
    (a27 : PySem.W.nsIn K mainGlobals "_law_thing_right" = some (some (.ref f27))) (l27 : K.lookup f27 = some ⟨oc27, od27, .func (PySem.W.fnOf "_law_thing_right" "_law_thing_right" (defArgs s__law_thing_right) (defBody s__law_thing_right) (defScope s__law_thing_right) .none kV27 dc27 pm27 an27 cd27 ct27), sl27⟩) (c27 : PySem.W.codeIn K cd27 "_law_thing_right" = true) (k27 : PySem.W.keepIn K (.ref f27) = true)
    (a28 : PySem.W.nsIn K mainGlobals "_law_right" = some (some (.ref f28))) (l28 : K.lookup f28 = some ⟨oc28, od28, .func (PySem.W.fnOf "_law_right" "_law_right" (defArgs s__law_right) (defBody s__law_right) (defScope s__law_right) .none kV28 dc28 pm28 an28 cd28 ct28), sl28⟩) (c28 : PySem.W.codeIn K cd28 "_law_right" = true) (k28 : PySem.W.keepIn K (.ref f28) = true)
    (a29 : PySem.W.nsIn K mainGlobals "law" = some (some (.ref f29))) (l29 : K.lookup f29 = some ⟨oc29, od29, .func (PySem.W.fnOf "law" "law" (defArgs s_law) (defBody s_law) (defScope s_law) .none kV29 dc29 pm29 an29 cd29 ct29), sl29⟩) (c29 : PySem.W.codeIn K cd29 "law" = true) (k29 : PySem.W.keepIn K (.ref f29) = true)
    (z0 : PySem.W.nsIn K mainGlobals "ValueError" = some none) (z1 : PySem.W.nsIn K mainGlobals "abs" = some none) (z2 : PySem.W.nsIn K mainGlobals "all" = some none) (z3 : PySem.W.nsIn K mainGlobals "bool" = some none) (z4 : PySem.W.nsIn K mainGlobals "enumerate" = some none) (z5 : PySem.W.nsIn K mainGlobals "int" = some none) (z6 : PySem.W.nsIn K mainGlobals "isinstance" = some none) (z7 : PySem.W.nsIn K mainGlobals "len" = some none) (z8 : PySem.W.nsIn K mainGlobals "list" = some none) (z9 : PySem.W.nsIn K mainGlobals "min" = some none) (z10 : PySem.W.nsIn K mainGlobals "range" = some none) (z11 : PySem.W.nsIn K mainGlobals "repr" = some none) (z12 : PySem.W.nsIn K mainGlobals "set" = some none) (z13 : PySem.W.nsIn K mainGlobals "str" = some none) (z14 : PySem.W.nsIn K mainGlobals "tuple" = some none) (z15 : PySem.W.nsIn K mainGlobals "zip" = some none) :
    ∃ fd : FuncData, (∀ (s : Shared) (v : Value), BindsTo s fd ⟨[v], []⟩ [("_law_script", v)]) ∧ ∀ base : Heap, K.In base → base.Ns mainGlobals mg → FnG l.prog w K mg base CX0 10 fa fd ["_law_script"] (spLaw K) := by
  have e := hfa.symm.trans (PySem.W.mg_of X G a29)
  cases e
  have T : Blt mg := ⟨PySem.W.mg_none_of X G z0, PySem.W.mg_none_of X G z1, PySem.W.mg_none_of X G z2, PySem.W.mg_none_of X G z3, PySem.W.mg_none_of X G z4, PySem.W.mg_none_of X G z5, PySem.W.mg_none_of X G z6, PySem.W.mg_none_of X G z7, PySem.W.mg_none_of X G z8, PySem.W.mg_none_of X G z9, PySem.W.mg_none_of X G z10, PySem.W.mg_none_of X G z11, PySem.W.mg_none_of X G z12, PySem.W.mg_none_of X G z13, PySem.W.mg_none_of X G z14, PySem.W.mg_none_of X G z15⟩
  have F0 := fun_mk (st := s_are_alike) l0 c0 k0
  have b0 := F0.binds (ps := P_are_alike) fun _ _ _ _ _ _ us hl => match us, hl with | [_, _], _ => rfl
  have F1 := fun_mk (st := s_first_unlike) l1 c1 k1
  have b1 := F1.binds (ps := P_first_unlike) fun _ _ _ _ _ _ us hl => match us, hl with | [_], _ => rfl
  have F2 := fun_mk (st := s_is_even) l2 c2 k2
  have b2 := F2.binds (ps := P_is_even) fun _ _ _ _ _ _ us hl => match us, hl with | [_], _ => rfl
  have F3 := fun_mk (st := s_half_of) l3 c3 k3
  have b3 := F3.binds (ps := P_half_of) fun _ _ _ _ _ _ us hl => match us, hl with | [_], _ => rfl
  have F4 := fun_mk (st := s_even_from) l4 c4 k4
  have b4 := F4.binds (ps := P_even_from) fun _ _ _ _ _ _ us hl => match us, hl with | [_], _ => rfl
  have F5 := fun_mk (st := s__law_box) l5 c5 k5
  have b5 := F5.binds (ps := P__law_box) fun _ _ _ _ _ _ us hl => match us, hl with | [_, _], _ => rfl
  have F6 := fun_mk (st := s__law_take) l6 c6 k6
  have b6 := F6.binds (ps := P__law_take) fun _ _ _ _ _ _ us hl => match us, hl with | [_, _], _ => rfl
  have F7 := fun_mk (st := s__law_pick) l7 c7 k7
  have b7 := F7.binds (ps := P__law_pick) fun _ _ _ _ _ _ us hl => match us, hl with | [_, _], _ => rfl
  have F8 := fun_mk (st := s__law_folded) l8 c8 k8
  have b8 := F8.binds (ps := P__law_folded) fun _ _ _ _ _ _ us hl => match us, hl with | [_, _], _ => rfl
  have F9 := fun_mk (st := s__law_same) l9 c9 k9
  have b9 := F9.binds (ps := P__law_same) fun _ _ _ _ _ _ us hl => match us, hl with | [_, _], _ => rfl
  have F10 := fun_mk (st := s__law_is_plain_prime) l10 c10 k10
  have b10 := F10.binds (ps := P__law_is_plain_prime) fun _ _ _ _ _ _ us hl => match us, hl with | [_], _ => rfl
  have F11 := fun_mk (st := s__law_least_generator) l11 c11 k11
  have b11 := F11.binds (ps := P__law_least_generator) fun _ _ _ _ _ _ us hl => match us, hl with | [_], _ => rfl
  have F12 := fun_mk (st := s__law_divided) l12 c12 k12
  have b12 := F12.binds (ps := P__law_divided) fun _ _ _ _ _ _ us hl => match us, hl with | [_, _], _ => rfl
  have F13 := fun_mk (st := s__law_own_wheel) l13 c13 k13
  have b13 := F13.binds (ps := P__law_own_wheel) fun _ _ _ _ _ _ us hl => match us, hl with | [_], _ => rfl
  have F14 := fun_mk (st := s__law_world) l14 c14 k14
  have b14 := F14.binds (ps := P__law_world) fun _ _ _ _ _ _ us hl => match us, hl with | [_], _ => rfl
  have F15 := fun_mk (st := s__law_worth) l15 c15 k15
  have b15 := F15.binds (ps := P__law_worth) fun _ _ _ _ _ _ us hl => match us, hl with | [_, _], _ => rfl
  have F16 := fun_mk (st := s__law_row) l16 c16 k16
  have b16 := F16.binds (ps := P__law_row) fun _ _ _ _ _ _ us hl => match us, hl with | [_, _, _], _ => rfl
  have F17 := fun_mk (st := s__law_named_error) l17 c17 k17
  have b17 := F17.binds (ps := P__law_named_error) fun _ _ _ _ _ _ us hl => match us, hl with | [_], _ => rfl
  have F18 := fun_mk (st := s__law_even_row) l18 c18 k18
  have b18 := F18.binds (ps := P__law_even_row) fun _ _ _ _ _ _ us hl => match us, hl with | [_], _ => rfl
  have F19 := fun_mk (st := s__law_raised) l19 c19 k19
  have b19 := F19.binds (ps := P__law_raised) fun _ _ _ _ _ _ us hl => match us, hl with | [_, _, _], _ => rfl
  have F20 := fun_mk (st := s__law_bad_place) l20 c20 k20
  have b20 := F20.binds (ps := P__law_bad_place) fun _ _ _ _ _ _ us hl => match us, hl with | [_], _ => rfl
  have F21 := fun_mk (st := s__law_due) l21 c21 k21
  have b21 := F21.binds (ps := P__law_due) fun _ _ _ _ _ _ us hl => match us, hl with | [_], _ => rfl
  have F22 := fun_mk (st := s__law_told) l22 c22 k22
  have b22 := F22.binds (ps := P__law_told) fun _ _ _ _ _ _ us hl => match us, hl with | [_], _ => rfl
  have F23 := fun_mk (st := s__law_is_so) l23 c23 k23
  have b23 := F23.binds (ps := P__law_is_so) fun _ _ _ _ _ _ us hl => match us, hl with | [_], _ => rfl
  have F24 := fun_mk (st := s__law_things) l24 c24 k24
  have b24 := F24.binds (ps := P__law_things) fun _ _ _ _ _ _ us hl => match us, hl with | [_, _], _ => rfl
  have F25 := fun_mk (st := s__law_bent) l25 c25 k25
  have b25 := F25.binds (ps := P__law_bent) fun _ _ _ _ _ _ us hl => match us, hl with | [_, _], _ => rfl
  have F26 := fun_mk (st := s__law_is_row) l26 c26 k26
  have b26 := F26.binds (ps := P__law_is_row) fun _ _ _ _ _ _ us hl => match us, hl with | [_], _ => rfl
  have F27 := fun_mk (st := s__law_thing_right) l27 c27 k27
  have b27 := F27.binds (ps := P__law_thing_right) fun _ _ _ _ _ _ us hl => match us, hl with | [_], _ => rfl
  have F28 := fun_mk (st := s__law_right) l28 c28 k28
  have b28 := F28.binds (ps := P__law_right) fun _ _ _ _ _ _ us hl => match us, hl with | [_, _], _ => rfl
  have F29 := fun_mk (st := s_law) l29 c29 k29
  have F_I := fun_mk (st := s_init) lI cI kI
  have b_I := F_I.binds (ps := N_init) fun _ _ _ _ _ _ us hl => match us, hl with | [_, _], _ => rfl
  have EK_NotEven : ExK K C_NotEven := ⟨⟨⟨nm_NotEven, q_NotEven, N_NotEven, bs_NotEven, _, sn_NotEven, sb_NotEven, ab_NotEven, co_NotEven, dd_NotEven, m0_NotEven, m1_NotEven, m2_NotEven, m3_NotEven, m5_NotEven, xL_NotEven, rfl⟩, sa_NotEven, eC_NotEven, tC_NotEven, kC_NotEven⟩, ⟨ga_NotEven, gg_NotEven, eC_NotEven, hC_NotEven⟩, ⟨ga_NotEven, gg_NotEven, eC_NotEven, hC_NotEven, oc_NotEven, on, ot, mo_NotEven⟩, nw_NotEven⟩
  have R_NotEven : Ref K C_TurnError C_NotEven fI := ⟨EK_NotEven, ii_NotEven, PySem.W.exm_ref eT hT tT su_NotEven, kv_NotEven, kt_NotEven⟩
  have M_TurnError := PySem.W.mg_of X G g_TurnError
  have M_NoInverse := PySem.W.mg_of X G g_NoInverse
  have M_NotCoprime := PySem.W.mg_of X G g_NotCoprime
  have M_BadGround := PySem.W.mg_of X G g_BadGround
  have M_NoRoot := PySem.W.mg_of X G g_NoRoot
  have M_NoShare := PySem.W.mg_of X G g_NoShare
  have M_BadLength := PySem.W.mg_of X G g_BadLength
  have M_BadText := PySem.W.mg_of X G g_BadText
  have M_TooSmall := PySem.W.mg_of X G g_TooSmall
  have M_NotEven := PySem.W.mg_of X G g_NotEven
  refine ⟨_, fun s v => .of_eq rfl, fun base _ _ => ok_law (P := l.prog) (w := w) (base := base) F29 T ⟨⟨_, _, F0, b0, PySem.W.mg_of X G a0⟩, ⟨_, _, F1, b1, PySem.W.mg_of X G a1⟩, ⟨_, _, F2, b2, PySem.W.mg_of X G a2⟩, ⟨_, _, F3, b3, PySem.W.mg_of X G a3⟩, ⟨_, _, F4, b4, PySem.W.mg_of X G a4⟩, ⟨_, _, F5, b5, PySem.W.mg_of X G a5⟩, ⟨_, _, F6, b6, PySem.W.mg_of X G a6⟩, ⟨_, _, F7, b7, PySem.W.mg_of X G a7⟩, ⟨_, _, F8, b8, PySem.W.mg_of X G a8⟩, ⟨_, _, F9, b9, PySem.W.mg_of X G a9⟩, ⟨_, _, F10, b10, PySem.W.mg_of X G a10⟩, ⟨_, _, F11, b11, PySem.W.mg_of X G a11⟩, ⟨_, _, F12, b12, PySem.W.mg_of X G a12⟩, ⟨_, _, F13, b13, PySem.W.mg_of X G a13⟩, ⟨_, _, F14, b14, PySem.W.mg_of X G a14⟩, ⟨_, _, F15, b15, PySem.W.mg_of X G a15⟩, ⟨_, _, F16, b16, PySem.W.mg_of X G a16⟩, ⟨_, _, F17, b17, PySem.W.mg_of X G a17⟩, ⟨_, _, F18, b18, PySem.W.mg_of X G a18⟩, ⟨_, _, F19, b19, PySem.W.mg_of X G a19⟩, ⟨_, _, F20, b20, PySem.W.mg_of X G a20⟩, ⟨_, _, F21, b21, PySem.W.mg_of X G a21⟩, ⟨_, _, F22, b22, PySem.W.mg_of X G a22⟩, ⟨_, _, F23, b23, PySem.W.mg_of X G a23⟩, ⟨_, _, F24, b24, PySem.W.mg_of X G a24⟩, ⟨_, _, F25, b25, PySem.W.mg_of X G a25⟩, ⟨_, _, F26, b26, PySem.W.mg_of X G a26⟩, ⟨_, _, F27, b27, PySem.W.mg_of X G a27⟩, ⟨_, _, F28, b28, PySem.W.mg_of X G a28⟩⟩ ⟨⟨F_I, b_I, tI⟩, R_NotEven, M_TurnError, M_NotEven, fke, ⟨_, M_BadGround, fk1⟩, ⟨_, M_BadLength, fk2⟩, ⟨_, M_NoRoot, fk3⟩, ⟨_, M_NotCoprime, fk4⟩, ⟨_, M_TooSmall, fk5⟩, ⟨_, M_NoShare, fk6⟩, ⟨_, M_BadText, fk7⟩, ⟨_, M_NoInverse, fk8⟩⟩⟩
end My
open PySem PySem.W PyProof.Rows
set_option maxRecDepth 100000 in
set_option maxHeartbeats 0 in
theorem PySem.Challenge.cw_turnsums_k70_even_rows_and_halves_holds : PySem.Challenge.rw_turnsums_k70_even_rows_and_halves.Holds := by
  w_on; o_law; k_head; (case hw => w_witness2)
  k_fill
  refine My.walk_ofG (l := PySem.Challenge.rw_turnsums_k70_even_rows_and_halves) (n := 63) (k := 10) (x := "_law_script") (sp := fun w => My.spLaw _) rfl (by decide) rfl ⟨rfl, by decide, by decide⟩ (fun w h Y => PySem.W.kIn_of Y) ?F (fun _ _ a ns hl _ hS => ⟨a, ns, rfl, hS, hl, fun _ => rfl⟩)
  case F =>
    intro w mg fa h KX G hmg
    refine' My.all_mk KX G hmg ?g_TurnError ?g_NoInverse ?g_NotCoprime ?g_BadGround ?g_NoRoot ?g_NoShare ?g_BadLength ?g_BadText ?g_TooSmall ?g_NotEven ?on ?ot ?eT ?hT ?tT ?xL_NotEven ?sa_NotEven ?ga_NotEven ?gg_NotEven ?nw_NotEven ?ii_NotEven ?oc_NotEven ?kC_NotEven ?eC_NotEven ?tC_NotEven ?hC_NotEven ?mo_NotEven ?su_NotEven ?kv_NotEven ?kt_NotEven ?lI ?cI ?kI ?tI ?fke ?fk1 ?fk2 ?fk3 ?fk4 ?fk5 ?fk6 ?fk7 ?fk8 ?a0 ?l0 ?c0 ?k0 ?a1 ?l1 ?c1 ?k1 ?a2 ?l2 ?c2 ?k2 ?a3 ?l3 ?c3 ?k3 ?a4 ?l4 ?c4 ?k4 ?a5 ?l5 ?c5 ?k5 ?a6 ?l6 ?c6 ?k6 ?a7 ?l7 ?c7 ?k7 ?a8 ?l8 ?c8 ?k8 ?a9 ?l9 ?c9 ?k9 ?a10 ?l10 ?c10 ?k10 ?a11 ?l11 ?c11 ?k11 ?a12 ?l12 ?c12 ?k12 ?a13 ?l13 ?c13 ?k13 ?a14 ?l14 ?c14 ?k14 ?a15 ?l15 ?c15 ?k15 ?a16 ?l16 ?c16 ?k16 ?a17 ?l17 ?c17 ?k17 ?a18 ?l18 ?c18 ?k18 ?a19 ?l19 ?c19 ?k19 ?a20 ?l20 ?c20 ?k20 ?a21 ?l21 ?c21 ?k21 ?a22 ?l22 ?c22 ?k22 ?a23 ?l23 ?c23 ?k23 ?a24 ?l24 ?c24 ?k24 ?a25 ?l25 ?c25 ?k25 ?a26 ?l26 ?c26 ?k26 ?a27 ?l27 ?c27 ?k27 ?a28 ?l28 ?c28 ?k28 ?a29 ?l29 ?c29 ?k29 ?z0 ?z1 ?z2 ?z3 ?z4 ?z5 ?z6 ?z7 ?z8 ?z9 ?z10 ?z11 ?z12 ?z13 ?z14 ?z15
    (case g_TurnError => first | k_is | rfl)
    (case g_NoInverse => first | k_is | rfl)
    (case g_NotCoprime => first | k_is | rfl)
    (case g_BadGround => first | k_is | rfl)
    (case g_NoRoot => first | k_is | rfl)
    (case g_NoShare => first | k_is | rfl)
    (case g_BadLength => first | k_is | rfl)
    (case g_BadText => first | k_is | rfl)
    (case g_TooSmall => first | k_is | rfl)
    (case g_NotEven => first | k_is | rfl)
    (case on => first | k_is | rfl)
    (case ot => first | k_is | rfl)
    (case eT => first | k_is | rfl)
    (case hT => first | k_is | rfl)
    (case tT => first | k_is | rfl)
    (case xL_NotEven => first | k_is | rfl)
    (case sa_NotEven => first | k_is | rfl)
    (case ga_NotEven => first | k_is | rfl)
    (case gg_NotEven => first | k_is | rfl)
    (case nw_NotEven => first | k_is | rfl)
    (case ii_NotEven => first | k_is | rfl)
    (case oc_NotEven => first | k_is | rfl)
    (case kC_NotEven => first | k_is | rfl)
    (case eC_NotEven => first | k_is | rfl)
    (case tC_NotEven => first | k_is | rfl)
    (case hC_NotEven => first | k_is | rfl)
    (case mo_NotEven => first | k_is | rfl)
    (case su_NotEven => first | k_is | rfl)
    (case kv_NotEven => first | k_is | rfl)
    (case kt_NotEven => first | k_is | rfl)
    (case lI => first | k_is | rfl)
    (case cI => first | k_is | rfl)
    (case kI => first | k_is | rfl)
    (case tI => first | k_is | rfl)
    (case fke => first | k_is | rfl)
    (case fk1 => first | k_is | rfl)
    (case fk2 => first | k_is | rfl)
    (case fk3 => first | k_is | rfl)
    (case fk4 => first | k_is | rfl)
    (case fk5 => first | k_is | rfl)
    (case fk6 => first | k_is | rfl)
    (case fk7 => first | k_is | rfl)
    (case fk8 => first | k_is | rfl)
    (case a0 => k_is)
    (case l0 => k_is)
    (case c0 => k_is)
    (case k0 => k_is)
    (case a1 => k_is)
    (case l1 => k_is)
    (case c1 => k_is)
    (case k1 => k_is)
    (case a2 => k_is)
    (case l2 => k_is)
    (case c2 => k_is)
    (case k2 => k_is)
    (case a3 => k_is)
    (case l3 => k_is)
    (case c3 => k_is)
    (case k3 => k_is)
    (case a4 => k_is)
    (case l4 => k_is)
    (case c4 => k_is)
    (case k4 => k_is)
    (case a5 => k_is)
    (case l5 => k_is)
    (case c5 => k_is)
    (case k5 => k_is)
    (case a6 => k_is)
    (case l6 => k_is)
    (case c6 => k_is)
    (case k6 => k_is)
    (case a7 => k_is)
    (case l7 => k_is)
    (case c7 => k_is)
    (case k7 => k_is)
    (case a8 => k_is)
    (case l8 => k_is)
    (case c8 => k_is)
    (case k8 => k_is)
    (case a9 => k_is)
    (case l9 => k_is)
    (case c9 => k_is)
    (case k9 => k_is)
    (case a10 => k_is)
    (case l10 => k_is)
    (case c10 => k_is)
    (case k10 => k_is)
    (case a11 => k_is)
    (case l11 => k_is)
    (case c11 => k_is)
    (case k11 => k_is)
    (case a12 => k_is)
    (case l12 => k_is)
    (case c12 => k_is)
    (case k12 => k_is)
    (case a13 => k_is)
    (case l13 => k_is)
    (case c13 => k_is)
    (case k13 => k_is)
    (case a14 => k_is)
    (case l14 => k_is)
    (case c14 => k_is)
    (case k14 => k_is)
    (case a15 => k_is)
    (case l15 => k_is)
    (case c15 => k_is)
    (case k15 => k_is)
    (case a16 => k_is)
    (case l16 => k_is)
    (case c16 => k_is)
    (case k16 => k_is)
    (case a17 => k_is)
    (case l17 => k_is)
    (case c17 => k_is)
    (case k17 => k_is)
    (case a18 => k_is)
    (case l18 => k_is)
    (case c18 => k_is)
    (case k18 => k_is)
    (case a19 => k_is)
    (case l19 => k_is)
    (case c19 => k_is)
    (case k19 => k_is)
    (case a20 => k_is)
    (case l20 => k_is)
    (case c20 => k_is)
    (case k20 => k_is)
    (case a21 => k_is)
    (case l21 => k_is)
    (case c21 => k_is)
    (case k21 => k_is)
    (case a22 => k_is)
    (case l22 => k_is)
    (case c22 => k_is)
    (case k22 => k_is)
    (case a23 => k_is)
    (case l23 => k_is)
    (case c23 => k_is)
    (case k23 => k_is)
    (case a24 => k_is)
    (case l24 => k_is)
    (case c24 => k_is)
    (case k24 => k_is)
    (case a25 => k_is)
    (case l25 => k_is)
    (case c25 => k_is)
    (case k25 => k_is)
    (case a26 => k_is)
    (case l26 => k_is)
    (case c26 => k_is)
    (case k26 => k_is)
    (case a27 => k_is)
    (case l27 => k_is)
    (case c27 => k_is)
    (case k27 => k_is)
    (case a28 => k_is)
    (case l28 => k_is)
    (case c28 => k_is)
    (case k28 => k_is)
    (case a29 => k_is)
    (case l29 => k_is)
    (case c29 => k_is)
    (case k29 => k_is)
    (case z0 => k_is)
    (case z1 => k_is)
    (case z2 => k_is)
    (case z3 => k_is)
    (case z4 => k_is)
    (case z5 => k_is)
    (case z6 => k_is)
    (case z7 => k_is)
    (case z8 => k_is)
    (case z9 => k_is)
    (case z10 => k_is)
    (case z11 => k_is)
    (case z12 => k_is)
    (case z13 => k_is)
    (case z14 => k_is)
    (case z15 => k_is)

