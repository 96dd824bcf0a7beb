import PyProof.Rows.All
import Wide.All
import OpenK.AllK
import Wide.FinOn
import HandS.ForMost
import HandS.IsInst
import HandS.Style
import HandS.Wide
import HandS.WideMore
import HandS.Zip
import HandS.Flow
import HandS.SetFor
import HandS.Strs
import HandS.SortInts
import HandS.ExcInit
import HandS.ExcField
import HandS.ExcIs
import HandS.ExcValue
import HandS.WordsExc
import HandS.NoneIn
import HandS.Conv
import KE.KExcIs
import KE.GoesMore
import PyProof.Draws
import PySem.Challenge.RW_turnsums_k49_rows_put_in_order
set_option Elab.async false
set_option linter.all false
set_option maxRecDepth 100000
set_option maxHeartbeats 4000000
namespace My
open PySem L2
def top (i : Nat) : Stmt := PySem.Challenge.pw_turnsums_k49_rows_put_in_order.main.body.getD i (.Pass ⟨0, 0, 0, 0⟩)
/-- a def of the text: where it stands, how it is called -/
structure Df (K : PySem.W.Frag) (mg : Str → Option Value) (x : Str) (st : Stmt) (ps : List Str) (f : Addr) (fd : FuncData) : Prop where
  F : Fun K x x st f fd
  b : Binds K fd ps []
  g : mg x = some (.ref f)
/-! heaps: all but the box stays -/
theorem same_upd {H H' : Hp} {p : Addr} {o : HO} (h : Same H H') (n : H' p = none) : Same H (upd H' p o) := fun b x e => by
  rw [upd_ne (ne_of_none (h b x e) n)]
  exact h b x e
theorem same_new {H : Hp} {p : Addr} {o : HO} (n : H p = none) : Same H (upd H p o) := same_upd (Same.refl H) n
theorem same_mut {H H' : Hp} {p : Addr} {o : HO} (h : Same H H') (n : H p = none) : Same H (upd H' p o) := fun b x e => by
  rw [upd_ne (ne_of_none e n)]
  exact h b x e
theorem same_t {K : PySem.W.Frag} {H H' : Hp} {a : Addr} {xs : List V} (e : Same H H') (h : SqT K H a xs) : SqT K H' a xs := by
  rcases h with (h | ⟨o, h⟩) | h
  · exact .inl (.inl (e _ _ h))
  · exact .inl (.inr ⟨o, e _ _ h⟩)
  · exact .inr h
def Keep (b : Addr) (H H' : Hp) : Prop := ∀ a o, a ≠ b → H a = some o → H' a = some o
theorem Keep.refl (b : Addr) (H : Hp) : Keep b H H := fun _ _ _ h => h
theorem Keep.trans {b : Addr} {H H1 H2 : Hp} (a : Keep b H H1) (c : Keep b H1 H2) : Keep b H H2 := fun x o n h => c x o n (a x o n h)
theorem keepS {b : Addr} {H H' : Hp} (h : Same H H') : Keep b H H' := fun x o _ e => h x o e
theorem keep_same {b : Addr} {H0 H H' : Hp} (a : Same H0 H) (n : H0 b = none) (k : Keep b H H') : Same H0 H' := fun x o e => k x o (ne_of_none e n) (a x o e)
theorem keep_upd {b : Addr} {H H' : Hp} {o : HO} (h : Keep b H H') : Keep b H (upd H' b o) := fun a u n e => by
  rw [upd_ne n]
  exact h a u n e
theorem keep_new {b p : Addr} {H H' : Hp} {o : HO} (h : Keep b H H') (n : H' p = none) : Keep b H (upd H' p o) := fun a u na e => by
  rw [upd_ne (ne_of_none (h a u na e) n)]
  exact h a u na e
theorem Keep.seq {K : PySem.W.Frag} {b a : Addr} {H H' : Hp} {xs : List V} (e : Keep b H H') (n : a ≠ b) (h : SqL K H a xs) : SqL K H' a xs := by
  rcases h with (h | ⟨o, h⟩) | h
  · exact .inl (.inl (e _ _ n h))
  · exact .inl (.inr ⟨o, e _ _ n h⟩)
  · exact .inr h
def BoxAt (H : Hp) (b : Addr) (n : Int) : Prop := ∃ x y z : Int, H b = some (.lst [.int x, .int y, .int z]) ∧ 0 ≤ x ∧ 0 ≤ y ∧ y ≤ 4294967296 ∧ 0 ≤ z ∧ z ≤ n
theorem BoxAt.mono {H : Hp} {b : Addr} {n m : Int} (h : BoxAt H b n) (e : n ≤ m) : BoxAt H b m := by
  obtain ⟨x, y, z, a1, a2, a3, a4, a5, a6⟩ := h
  exact ⟨x, y, z, a1, a2, a3, a4, a5, by omega⟩
theorem BoxAt.same {H H' : Hp} {b : Addr} {n : Int} (h : BoxAt H b n) (e : Same H H') : BoxAt H' b n := by
  obtain ⟨x, y, z, a1, a2⟩ := h
  exact ⟨x, y, z, e _ _ a1, a2⟩
theorem BoxAt.some {H : Hp} {b : Addr} {n : Int} (h : BoxAt H b n) : ∃ o, H b = some o := by
  obtain ⟨x, y, z, a1, a2⟩ := h
  exact ⟨_, a1⟩
theorem BoxAt.ne {H : Hp} {b p : Addr} {n : Int} (h : BoxAt H b n) (e : H p = none) : p ≠ b := by
  obtain ⟨o, h⟩ := h.some
  exact (ne_of_none h e).symm
theorem szl {n : Nat} (h : n ≤ 60000) : n ≤ sizeLine := Nat.le_trans h (by decide)
theorem szm {n : Nat} (h : n ≤ 60000) : n < sizeLine := Nat.lt_of_le_of_lt h (by decide)
theorem pw6 : (10 : Int) ^ Int.toNat 6 = 1000000 := by decide
theorem pw9 : (10 : Int) ^ Int.toNat 9 = 1000000000 := by decide
theorem newO {H H' : Hp} {p : Addr} {o : HO} (e : upd H p o = H') (hp : H p = none) : Same H H' ∧ H' p = some o := by
  subst e
  exact ⟨same_new hp, upd_same⟩
theorem mutO {H H' : Hp} {p : Addr} {o : HO} (e : upd H p o = H') : Keep p H H' ∧ H' p = some o := by
  subst e
  exact ⟨keep_upd (Keep.refl _ _), upd_same⟩
/-- a word of ours that the walk must not open -/
inductive Hold (p : Prop) : Prop
  | mk : p → Hold p
theorem Hold.un {p : Prop} (h : Hold p) : p := by
  cases h with
  | mk h => exact h
theorem holdN {W : Nat → L2.St → Hp → Prop} {m : Nat} : ∀ (σ' : L2.St) (H' : Hp), Hold (∃ m', m' < m ∧ W m' σ' H') → ∃ m', m' < m ∧ W m' σ' H' := fun _ _ h => h.un
theorem ite_dec {c A B : Prop} [Decidable c] (hc : c) (h : A) : if decide c = true then A else B := by
  rw [decide_eq_true hc]
  exact iteT h
def rLenQ (K : PySem.W.Frag) : List V → Hp → VK → Prop := fun xs H Q => ∃ p ys, xs = [.ref p] ∧ (SqL K H p ys ∨ SqT K H p ys) ∧ Q (.int ys.length) H
theorem iteTe {b : Bool} {A B : Prop} (e : b = true) (h : A) : if b = true then A else B := by
  rw [if_pos e]
  exact h
theorem iteFe {b : Bool} {A B : Prop} (e : b = false) (h : B) : if b = true then A else B := by
  rw [e]
  exact iteF h
theorem cmul_b {i : Int} {b : Bool} : CMul i (if b then 1 else 0) := by
  refine .inr ?_
  cases b <;> exact ⟨by decide, by decide⟩
theorem at_ints {ns : List Int} {k : Int} (h0 : 0 ≤ k) (h : k < (ns.length : Int)) : ∃ c, c ∈ ns ∧ atI (ns.map V.int) k = some (.int c) := by
  have hk : k.toNat < ns.length := by omega
  refine ⟨ns[k.toNat], List.getElem_mem hk, at_of (j := k.toNat) (by omega) ?_⟩
  rw [List.getElem?_map, List.getElem?_eq_getElem hk]
  rfl
theorem at_some {xs : List V} {k : Int} (h0 : 0 ≤ k) (h : k < (xs.length : Int)) : ∃ v, v ∈ xs ∧ atI xs k = some v := by
  have hk : k.toNat < xs.length := by omega
  exact ⟨xs[k.toNat], List.getElem_mem hk, at_of (j := k.toNat) (by omega) (List.getElem?_eq_getElem hk)⟩
theorem int_mem {ns : List Int} {v : V} (h : v ∈ ns.map V.int) : ∃ c, c ∈ ns ∧ v = .int c := by
  obtain ⟨c, hc, e⟩ := List.mem_map.mp h
  exact ⟨c, hc, e.symm⟩
structure Blt (mg : Str → Option Value) : Prop where
  b_ValueError : mg "ValueError" = none
  b_abs : mg "abs" = none
  b_all : mg "all" = none
  b_bool : mg "bool" = none
  b_enumerate : mg "enumerate" = none
  b_int : mg "int" = none
  b_isinstance : mg "isinstance" = none
  b_len : mg "len" = none
  b_list : mg "list" = none
  b_range : mg "range" = none
  b_repr : mg "repr" = none
  b_set : mg "set" = none
  b_str : mg "str" = none
  b_tuple : mg "tuple" = none
  b_zip : mg "zip" = none
/-! ### sorted(set(xs)), xs a list of few ints -/
section
open PySem.Spec PyProof.Rows PySem.Calls
abbrev bareSet (w : World) : Obj := { cls := .type "set", dict := none, data := .set #[] 0 (.fresh 0 0 (!w.params.followText "set-order")) }
/-- what set(xs) leaves behind -/
def SetLeft (w : World) (s : Shared) (ns : List Int) (h' : Heap) (c : Nat) : Prop := SetR w h' s.heap.objs.size (fun j => decide (j ∈ ns)) c ∧ c ≤ ns.length ∧ ∀ b o, s.heap.get? b = some o → h'.get? b = some o
variable {P : Program} {w : World} {A : Around} {E : Value → Shared → Prop} {s : Shared}
theorem items_ints {items : Array Value} {ns : List Int} (hi : IntsAre items.toList ns) (i : Nat) (v : Value) (hv : items[i]? = some v) : ∃ k t, ns[i]? = some k ∧ v = .int k t := by
  have hl : items.size = ns.length := by
    rw [← Array.length_toList]
    exact hi.length
  have hlt : i < ns.length := by
    rw [← hl]
    exact (Array.getElem?_eq_some_iff.mp hv).1
  obtain ⟨t, e⟩ := hi.int_at i v (by rw [Array.getElem?_toList]; exact hv)
  refine ⟨ns[i], t, List.getElem?_eq_getElem hlt, e.trans ?_⟩
  rw [List.getD_eq_getElem?_getD, List.getElem?_eq_getElem hlt]
  rfl
set_option maxHeartbeats 3200000 in
theorem set_of_list {l : Addr} {items : Array Value} {ns : List Int} {Q : Value → Shared → Prop} (hh : A.handled = none) (hl : s.heap.IsList l items) (hi : IntsAre items.toList ns) (hb : ns.length + 1 < scanBound)
    (h : ∀ (h' : Heap) (tk c : Nat), SetLeft w s ns h' c → Q (.ref s.heap.objs.size) { s with heap := h', toks := tk }) : wpAny (model P w) A (call (.type "set") [.ref l]) Q E s := by
  have hsz : items.size = ns.length := by
    rw [← Array.length_toList]
    exact hi.length
  obtain ⟨mc, mt, hmro⟩ := F.called_set.mro
  have a1 := F.called_set.made; have a2 := F.called_set.sub; have a3 := F.called_set.notType; have a4 := F.called_set.canCreate; have a5 := F.typeCall_set_1 (.ref l)
  refine wpAny_call (codeAny_of_tree (show wpAny _ _ (callAny (.type "set") _) _ _ _ from wpAny_pure ⟨Code.quiet_builtin _ (by decide +kernel), codeAny_builtin F.entry_type_call ?_⟩))
  rw [Around.under_plain (weight_type_call_type "set" [.ref l] []) rfl]; repeat (any_goals (first | assumption | wp_step))
  refine codeAny_mono (code_set_led1 (.ref l) (E := E) (Q₁ := fun v s' => v = .ref s.heap.objs.size ∧ s' = { s with heap := s.heap.push (bareSet w) }) ⟨rfl, rfl⟩) fun res s1 hres => ?_
  match res, hres with
  | .error e, hres => exact hres
  | .ok .next, hres => exact hres.elim
  | .ok .cont, hres => exact hres.elim
  | .ok .brk, hres => exact hres.elim
  | .ok (.ret v), hres =>
    obtain ⟨rfl, rfl⟩ := hres
    have g0 : (s.heap.push (bareSet w)).get? s.heap.objs.size = some (bareSet w) := Heap.get?_push_size _ rfl
    have ty0 : Shared.TypeIs { s with heap := s.heap.push (bareSet w) } (.ref s.heap.objs.size) "set" := ⟨_, g0, rfl⟩
    have i1 := F.called_set.init.lookup; have i2 := F.called_set.init.bind (.ref s.heap.objs.size)
    repeat (any_goals (first | assumption | wp_step))
    refine codeAny_mono (codeAny_call_builtin (R := wants (fun v s' => v = .none ∧ ∃ h' tk c, s' = { s with heap := h', toks := tk } ∧ SetLeft w s ns h' c) E) F.called_set.init.plain F.entry_set_init (check_set_init_1 ty0 ?_)) fun res2 s2 hres2 => ?_
    · obtain ⟨⟨lc, ld, la, ls⟩, hol, hcl, nl, hdl⟩ := hl
      simp only at hcl hdl; subst hcl; subst hdl
      have hol1 := Heap.get?_push_of_some (bareSet w) hol
      have hL1 : (s.heap.push (bareSet w)).IsList l items := ⟨_, hol1, rfl, nl, rfl⟩
      have n1 := F.sub_list_set; have n2 := F.sub_list_frozenset; have n3 : (Value.type "list" == Value.type "dict") = false := by decide
      unfold Builtin.«set.__init__» noKeywords Builtin.Frozenset.updateFrom; generalize hgo : pyIter = go; wp_walk; subst hgo
      refine wpAny_pyIter_list hL1 (wpAny_bind (wpAny_runValue ?_))
      have ll := Heap.lt_size hol
      have hhd : A.in1.in1.in1.handled = none := by simp [hh]
      have sz1 : (s.heap.push (bareSet w)).objs.size = s.heap.objs.size + 1 := Heap.size_push ..
      have off : l ≠ (s.heap.push (bareSet w)).objs.size := by rw [sz1]; exact Nat.ne_of_lt (Nat.lt_succ_of_lt ll)
      have out : s.heap.objs.size ∉ [(s.heap.push (bareSet w)).objs.size, l] := by
        intro z
        rcases List.mem_cons.mp z with z | z
        · rw [sz1] at z
          exact absurd z (Nat.ne_of_lt (Nat.lt_succ_self _))
        · exact absurd (List.mem_singleton.mp z) (Nat.ne_of_gt ll)
      refine set_update_ints ((Walks.list hhd _ l off items).toS) s.heap.objs.size out ns hsz hb (items_ints hi) (items.size - 0) 0 _ (by omega) (Nat.zero_le _) ⟨⟨_, Heap.get?_push_size _ rfl, rfl, rfl⟩, hL1.push _⟩ ⟨0, Nat.le_refl 0, setR_new_at (Heap.get?_push_of_some _ g0)⟩ ?_
      rintro ⟨h', g', d', tk', os'⟩ c' hm hc' hS'
      obtain ⟨e1, e2, e3⟩ := (show g' = s.gens ∧ d' = s.drawn ∧ os' = s.os from ⟨hm.gens, hm.drawn, hm.os⟩)
      subst e1; subst e2; subst e3
      refine wpAny_pure (show wpAny _ _ (ret Value.none) _ _ _ from wpAny_pure ⟨rfl, h', tk', c', rfl, hS', by omega, fun b o e => ?_⟩)
      have lb := Heap.lt_size e
      refine hm.heap b o ?_ (Heap.get?_push_of_some _ (Heap.get?_push_of_some _ e))
      intro z
      rcases List.mem_cons.mp z with z | z
      · exact absurd z (Nat.ne_of_lt lb)
      · have z2 := List.mem_singleton.mp z
        rw [sz1] at z2
        exact absurd z2 (Nat.ne_of_lt (Nat.lt_succ_of_lt lb))
    · match res2, hres2 with
      | .error e, hres2 => exact hres2
      | .ok .next, hres2 => exact hres2.elim
      | .ok .cont, hres2 => exact hres2.elim
      | .ok .brk, hres2 => exact hres2.elim
      | .ok (.ret v2), hres2 =>
        obtain ⟨rfl, h', tk, c', rfl, hS'⟩ := hres2
        repeat (any_goals (first | assumption | wp_step))
        exact h _ _ _ hS'
end
open PySem.Spec PyProof.Rows in
/-- sorted of a set of ints, however many -/
theorem set_sorted {P : Program} {w : World} {A : Around} {E : Value → Shared → Prop} {s : Shared} {a : Addr} {S : Int → Bool} {n : Nat} {Q : Value → Shared → Prop} (R : SetR w s.heap a S n) (hh : A.handled = none)
    (q : ∀ s' p (out : List Value) (c : Nat) (ms : List Int), (∀ b o, s.heap.get? b = some o → s'.heap.get? b = some o) → s'.gens = s.gens → s'.os = s.os → s.heap.objs.size ≤ p →
      s'.heap.get? p = some (seqObj "list" out.toArray c) → IntsAre out ms → ms.Pairwise (· < ·) → (∀ k, k ∈ ms ↔ S k = true) → ms.length = n → Q (.ref p) s') : wpAny (model P w) A (call (.builtin "sorted") [.ref a]) Q E s := by
  obtain ⟨o, es, ep, t, g1, g2, g3, good, nod, mem, g4, g5, g6, g7, g8⟩ := R
  refine Calls.call_function_entry kind_sorted plain_sorted entry_sorted (args_sorted1 _) ?_; unfold Builtin.«sorted»
  refine wpAny_bind (m := checkCount "sorted" 1 1 _) (wpAny_pure (wpAny_bind (collect_set (A := A.in1) hh ⟨o, g1, g2.1, g3⟩ g5 g4 g7 g8 fun s1 vs k1 z1 e1 e2 pm => ?_)))
  have len : vs.length = n := by
    rw [pm.length_eq, List.length_map, Array.length_toList]
    exact g6
  have ivs : ∀ e ∈ es.toList, SrtO.iv e.2 = keyOf e := fun e he => by
    obtain ⟨k, tk, h1, _⟩ := good e he
    unfold keyOf
    rw [h1]
    rfl
  have hI : IntsAre vs (vs.map SrtO.iv) := SrtO.ints_iv fun v hv => by
    obtain ⟨e, he, ev⟩ := List.mem_map.mp (pm.mem_iff.mp hv)
    obtain ⟨k, tk, h1, _⟩ := good e he
    exact ⟨k, tk, ev.symm.trans h1⟩
  have prm : (vs.map SrtO.iv).Perm (es.toList.map keyOf) := by
    refine (pm.map SrtO.iv).trans ?_
    rw [List.map_map]
    exact List.Perm.of_eq (List.map_congr_left ivs)
  have zn : n ≤ sizeLine := by
    unfold scanBound at g4
    exact szl (by omega)
  refine wpAny_bind (wpAny_newList ?_ (by rw [len]; exact zn))
  have at1 : (s1.heap.push (seqObj "list" vs.toArray 0)).get? s1.heap.objs.size = some (seqObj "list" vs.toArray 0) := Heap.get?_push_size _ rfl
  refine wpAny_bind (wpAny_holding (wpAny_call_entry slot_list_sort ⟨_, at1, rfl⟩ entry_list_sort (SrtO.list_sort_ord SrtO.swo_int at1 (by rw [len]; exact zn) (fun two => SrtO.ints_sortable hI two) fun out o1 o2 => ⟨_, rfl, ?_⟩) (args_list_sort _)))
  obtain ⟨j1, j2, j3⟩ := SrtO.ints_out hI o1 o2
  obtain ⟨c, at2⟩ := sortedHeap_at (vs := vs) (out := out.toArray) at1
  have prm2 := j2.trans prm
  refine wpAny_pure ⟨_, rfl, q _ s1.heap.objs.size out c _ (fun b u e => ?_) e1 e2 z1 at2 j1 (lt_of_le_nodup _ j3 (prm2.nodup_iff.mpr nod)) (fun k => by rw [prm2.mem_iff, ← mem k]) (by rw [prm2.length_eq, List.length_map, Array.length_toList]; exact g6)⟩
  have e3 := k1 b u e
  have l3 := Heap.lt_size e3
  exact (sortedHeap_old (vs := vs) (out := out.toArray) (Nat.ne_of_lt l3) (by rw [size_push']; exact Nat.lt_succ_of_lt l3)).trans (Heap.get?_push_of_some _ e3)
def tSortSet (K : PySem.W.Frag) (ta : TE) : TE := fun σ H Q => ta σ H fun x H1 => ∃ (l : Addr) (ns : List Int), x = .ref l ∧ SqL K H1 l (ns.map V.int) ∧ ns.length ≤ 4000 ∧
  ∀ (out : List Int) (p : Addr), H1 p = none → out.Pairwise (· < ·) → (∀ k, k ∈ out ↔ k ∈ ns) → out.length ≤ ns.length → Q (.ref p) (upd H1 p (.lst (out.map V.int)))
open PySem.Spec PyProof.Rows in
theorem pe_sortSet {X : Cx} {a : Expr} {ta : TE} {p p2 q pos : Pos} (hg : Gl X "sorted") (hm : X.mg "sorted" = none) (hg2 : Gl X "set") (hm2 : X.mg "set" = none) (ha : PE X a ta) (hc : X.calm = true := by rfl)
    (na : starEach [a] X.env = (false, eval a X.env) :: starEach [] X.env := by rfl) : PE X (.Call (.Name "sorted" p) [.Call (.Name "set" p2) [a] [] q] [] pos) (tSortSet X.K ta) := by
  refine ⟨fun pins s σ H Q I h => ?_⟩
  refine Call_ (ld_blt I hg hm boot_sorted (callWith_builtin1 (args_cons (Call_ (ld_blt I hg2 hm2 boot_set (callWith_type1 (args_cons (thn (ha.run pins s σ H _ I h) fun v s1 ⟨x, H1, I1, r1, q1⟩ => args_nil ?_) na) na rfl))) rfl) rfl rfl))
  obtain ⟨l, ns, rfl, hq, hn, q1⟩ := q1
  cases r1
  obtain ⟨its, r, pl, hz⟩ := I1.list hq
  have hd := I1.ok.hd hc
  refine set_of_list hd pl.isList (by simpa using ints_of_vals r) (by unfold scanBound; omega) fun h' tk c hL => args_nil ?_
  obtain ⟨R1, hcn, kept⟩ := hL
  refine set_sorted (s := { s1 with heap := h', toks := tk }) R1 hd fun s' pp out cc ms k g o hp hgt hi hs hmem hlen => ?_
  have kk : ∀ b u, s1.heap.get? b = some u → s'.heap.get? b = some u := fun b u e => k b u (kept b u e)
  have hpp : s1.heap.objs.size ≤ pp := Nat.le_trans (Nat.le_of_lt R1.lt) hp
  have fr : H1 pp = none := I1.hok.fresh hpp
  have sl : (ms.map V.int).length ≤ sizeLine := by
    rw [List.length_map, hlen]
    exact szl (by omega)
  have hos : s'.os = s1.os := o
  have J : Inv X pins σ (upd H1 pp (.lst (ms.map V.int))) { s1 with heap := s'.heap, gens := s'.gens, drawn := s'.drawn, toks := s'.toks } :=
    I1.call (ch := []) (Un.laid kk hpp fr) (I1.hok.laid kk hpp ⟨sl, out, cc, vals_of_ints hi, hgt⟩) (by rw [g]; exact I1.bare) (fun _ z => nomatch z)
  have es : s' = { s1 with heap := s'.heap, gens := s'.gens, drawn := s'.drawn, toks := s'.toks } := by
    obtain ⟨b1, b2, b3, b4, b5⟩ := s'
    simp only at hos
    subst hos
    rfl
  rw [es]
  exact ⟨.ref pp, _, J, rfl, q1 ms pp fr hs (fun j => (hmem j).trans decide_eq_true_iff) (by omega)⟩
local macro_rules | `(tactic| walk_at "ev1") => `(tactic| first
  | with_reducible assumption
  | ((with_reducible show _ = _); exact rfl)
  | ((first | with_reducible show (_ : Int) = _ | with_reducible show (_ : Int) < _ | with_reducible show (_ : Int) ≤ _ | with_reducible show (_ : Nat) < _ | with_reducible show (_ : Nat) ≤ _); first | omega | decide | (simp only [pw6, pw9]; omega) | (simp only [List.length_cons, List.length_nil, List.length_append, List.length_map, List.length_replicate]; omega))
  | assumption
  | exact upd_same
  | exact SqL.of upd_same
  | exact Or.inl (SqL.of upd_same)
  | exact Or.inl (by assumption)
  | exact Or.inr (by assumption)
  | omega
  | exact (show CDiv _ _ from ⟨by omega, by omega⟩)
  | exact (show CPow _ _ from ⟨by omega, by omega, by omega⟩)
  | exact (show CMul _ _ from .inl ⟨by omega, by omega⟩)
  | exact (show CMul _ _ from .inr ⟨by omega, by omega⟩)
  | exact (show CMul _ _ from cmul_b)
  | exact (show CDivW _ _ from wide_div (b := 31) (by omega) (by omega) (by decide) (by decide))
  | exact (Or.inl ⟨rfl, _, SqL.of (by assumption)⟩)
  | exact ClsV.ty _
  | exact .cons (.ty _) (.cons (.ty _) .nil)
  | (refine szl ?_; simp only [List.length_cons, List.length_nil, List.length_append, List.length_map, List.length_replicate]; omega)
  | (refine szm ?_; simp only [List.length_cons, List.length_nil, List.length_append, List.length_map, List.length_replicate]; omega))
local macro_rules | `(tactic| walk_at "s") => `(tactic| (first
  | (refine And.intro ?l ?_; (case l => walk_at "ev1"))
  | with_reducible refine iteT ?_
  | with_reducible refine iteF ?_
  | with_reducible refine ite_dec rfl ?_
  | with_reducible refine iteNS rfl ?_
  | with_reducible refine iteNS (by assumption) ?_
  | (apply Or.inl; apply Exists.intro; apply And.intro rfl)
  | (apply Or.inr; apply Exists.intro; apply And.intro rfl)
  | ((fail_if_success (refine @Exists.intro (Nat → Nat → L2.St → Hp → Prop) _ ?_ ?_)); (fail_if_success (refine @Exists.intro (Nat → L2.St → Hp → Prop) _ ?_ ?_)); (fail_if_success (refine @Exists.intro (L2.St → Hp → Prop) _ ?_ ?_)); (fail_if_success (refine @Exists.intro (Hp → Prop) _ ?_ ?_)); (fail_if_success (refine @Exists.intro (Nat → Nat → Hp → Prop) _ ?_ ?_)); apply Exists.intro)))
local macro_rules | `(tactic| walk_at "ev") => `(tactic| repeat (walk_at "s"))
local macro_rules | `(tactic| w_cond $i:ident) => do
  let b := (i.getId.toString.drop 1).toString
  let l := Lean.mkIdent (.mkSimple ("l" ++ b))
  let hl := Lean.mkIdent (.mkSimple ("hl" ++ b))
  let h := Lean.mkIdent (.mkSimple ("H" ++ b))
  let sm := Lean.mkIdent (.mkSimple ("sm" ++ b))
  let hq := Lean.mkIdent (.mkSimple ("hq" ++ b))
  `(tactic| (intro $l:ident $hl:ident; generalize hG : upd _ $l:ident _ = $h:ident; obtain ⟨$sm:ident, $hq:ident⟩ := newO hG $hl:ident; clear hG))
/-! ### a caught exception that a name keeps behind its clause -/
/-- at a: an exception of the class at C, its dict at d -/
def XOb (C d a : Addr) : HO := .ext fun h => ∃ (ob : Obj) (fl : Array Value), h.get? a = some ob ∧ Zc (.ref C) (some d) ob ∧ ob.data = .fields fl
theorem xob_ok {P : Program} {w : World} {H : Hp} {h : Heap} {C d a : Addr} {ob : Obj} {fl : Array Value} (q1 : h.get? a = some ob) (q2 : Zc (.ref C) (some d) ob) (q3 : ob.data = .fields fl) : ObjOk P w H h a (XOb C d a) :=
  ⟨⟨ob, fl, q1, q2, q3⟩, ⟨ob, q1⟩, fun _ _ ⟨u, v, r1, r2⟩ k => ⟨u, v, k u r1, r2⟩⟩
/-- an object of the heap that nobody tracks is tracked from now on -/
theorem track {X : Cx} {pins : List (Addr × Obj)} {σ : L2.St} {H : Hp} {s : Shared} {a : Addr} {o : HO} (I : Inv X pins σ H s) (n0 : X.s_0.heap.get? a = none) (hn : H a = none) (nL : a ≠ X.env.locals) (nC : ∀ x c, X.env.cells.lookup x = some c → c ≠ a)
    (nP : ∀ p ∈ X.pn ++ pins, p.1 ≠ a) (new : ObjOk X.prog X.w (upd H a o) s.heap a o) : Inv X pins σ (upd H a o) s := by
  have ne : ∀ {b : Addr} {u : HO}, H b = some u → b ≠ a := fun e => ne_of_none e hn
  refine ⟨I.ok, I.os, I.bare, ⟨I.base.keep, I.base.slot, fun b u e n hx => ?_, I.base.there, fun b xs e => ?_, fun b u v e => ?_, fun b ps e => ?_⟩, I.loc, I.cell, ?_, fun x c e => ?_, fun p hp => ?_, I.hok.laidN (fun _ _ z => z) hn new, I.len⟩
  · have : b ≠ a := fun z => by
      rw [z, n0] at e
      cases e
    rw [upd_ne this]
    exact I.base.free b u e n hx
  · have q := I.base.tups b xs e
    rw [upd_ne (ne q)]
    exact q
  · have q := I.base.frzs b u v e
    rw [upd_ne (ne q)]
    exact q
  · obtain ⟨m, q⟩ := I.base.tbls b ps e
    exact ⟨m, by rw [upd_ne (ne q)]; exact q⟩
  · rw [upd_ne nL.symm]
    exact I.free
  · rw [upd_ne (nC x c e)]
    exact I.freeC x c e
  · obtain ⟨e, n, r⟩ := I.pin p hp
    exact ⟨e, by rw [upd_ne (nP p hp)]; exact n, r⟩
/-- what 'except x as n: ..' wishes, the exception tracked behind it -/
def wKeep (K : PySem.W.Frag) (c : Value) (i : Nat) (ts : Addr → TS) (Wout : WX) (D : Ends) : WX := fun cls d σ H =>
  ∃ b, PySem.W.exmOne K cls c = some b ∧ (b = true → ∃ C dd, cls = .ref C ∧ d = some dd ∧ ∀ a, H a = none →
    ts a { nx := fun σ2 H2 => D.nx (σ2.set i none) (upd H2 a (XOb C dd a)), rt := fun _ _ => False, bk := fun _ _ => False, ct := fun _ _ => False } (σ.set i (some (.ref a))) H) ∧ (b = false → Wout cls d σ H)
section
variable {X : Cx} {x n : Str} {c : Value} {i : Nat} {body suite : List Stmt} {b₀ : Stmt} {np pos pos' : Pos} {tb : WX → TS} {ts : Addr → TS} {Wout : WX}
theorem ps_try_keep (hs : X.stack = X.env :: X.outer) (hf : X.env.frame = some X.env.locals) (hex : X.ex = []) (hN : X.N.Nodup) (hi : X.N[i]? = some n) (hln : X.env.kindOf n = some .local) (hc : Names X x c) (tk : Takes X Wout)
    (hb : ∀ (W : WX) (pn : List (Addr × Obj)) (xe : Value → Shared → Prop), Takes (X.tr pn xe) W → PassesOwn (model X.prog X.w) X.A X.env xe → PSs (X.tr pn xe) body (tb W))
    (hsu : ∀ (a : Addr) (pn : List (Addr × Obj)), PSs (X.suite a pn) (b₀ :: suite) (ts a)) :
    PS X (.Try body [.ExceptHandler (some (.Name x np)) (some n) (b₀ :: suite) pos'] [] [] pos) (fun D σ H => tb (wKeep X.K c i ts Wout D) D σ H) := by
  refine ⟨fun pins s σ H D I h => ?_⟩
  have ok := I.ok
  have fr : X.A.frames = some (X.env :: X.outer) := ok.frames.trans (congrArg some hs)
  refine wpAny_Try_except (wpAny_mono ((hb (wKeep X.K c i ts Wout D) (X.pn ++ pins) (fun e s1 => wpAny (model X.prog X.w) X.A (noteFrame e X.env)
    (fun _ s2 => wpAny (model X.prog X.w) X.A (setFlight e none) (fun _ s3 => wpAny (model X.prog X.w) X.A (handleBy e X.env [.ExceptHandler (some (.Name x np)) (some n) (b₀ :: suite) pos']) (SP X pins D) X.xe s3) X.xe s2) X.xe s1)
    (fun u s1 fly => ?_) PassesOwn.looking).run [] s σ H D (I.toTry _) h) (fun f s1 q => ?_) (fun _ _ z => z))
  · obtain ⟨a, B, s0, pins1, σ1, H1, cls, d, rfl, J0, nb, up, sky, na, os, ag, b, hm, yes, no⟩ := fly
    have J : Inv X pins σ1 H1 s0 := J0.ofTry ok
    have sky1 : Sky B (X.env :: X.outer) a (Zc cls d) X.env.locals s1.heap := hs ▸ sky
    show wpAny (model X.prog X.w) X.A (noteFrame (.ref a) X.env) _ _ _
    refine Sky.land Zc.steady fr hf sky1 fun g3 fly3 up3 => ?_
    have J3 : Inv X pins σ1 H1 { s1 with heap := g3 } := J.landed nb fly3.1 (up.trans up3) os ag
    obtain ⟨o3, f3, e3, z3, d3⟩ := fly3.there
    have away : a ∉ frs (X.env :: X.outer) := fun hmem => by
      obtain ⟨_, o', e', hnf⟩ := fly3.2.2.1.mem hmem
      cases e3.symm.trans e'
      exact hnf _ d3
    have nL : a ≠ X.env.locals := fun z => away (List.mem_filterMap.mpr ⟨X.env, List.mem_cons_self, hf.trans (congrArg some z.symm)⟩)
    have nF : a ∉ X.fs := fun hmem => by
      obtain ⟨e, he, q⟩ := List.mem_filterMap.mp hmem
      exact away (List.mem_filterMap.mpr ⟨e, List.mem_cons_of_mem _ he, q⟩)
    have nB : B.get? a = none := fly3.2.1
    have n0 : X.s_0.heap.get? a = none := by
      cases e : X.s_0.heap.get? a with
      | none => rfl
      | some o =>
        obtain ⟨o', q⟩ := J.base.there a o e (by rw [hex]; exact fun z => nomatch z)
        have q2 := nb a o' q (by rw [hs]; exact away)
        rw [nB] at q2
        cases q2
    have nP : ∀ p ∈ X.pn ++ pins, p.1 ≠ a := fun p hp z => by
      obtain ⟨q, _⟩ := J.pin p hp
      have q2 := nb p.1 p.2 q (by rw [hs, z]; exact away)
      rw [z, nB] at q2
      cases q2
    have S3 := J3.suite e3 d3 na nL nF
    have lt : PySem.W.Looks (model X.prog X.w) g3 (typeOf (.ref a)) cls := fun A Q E s k q => wpAny_typeOf_ref (k _ _ e3) (by rw [z3.1]; exact q)
    have lm := PySem.W.exm_one (M := model X.prog X.w) J3.kIn lt hm
    refine wpAny_handleBy_cons (codeAny_handlers_test ?_) (fun q => nomatch q)
    have named : ∀ {Q E : Value → Shared → Prop}, Q c { s1 with heap := g3 } → wpAny (model X.prog X.w) (X.A.mark (some (.ref a))) (eval (.Name x np) X.env) Q E { s1 with heap := g3 } := fun {Q E} q => by
      rcases hc with ⟨hg, hdb, hm1 | ⟨hm1, hv, hnn⟩⟩
      · exact ld_glob (X := X.suite a ((a, o3) :: (X.pn ++ pins))) S3 hg hm1 q hdb
      · exact ld_blt (X := X.suite a ((a, o3) :: (X.pn ++ pins))) S3 hg hm1 hv q hnn hdb
    refine named (lm.here ?_)
    cases b with
    | true =>
      obtain ⟨C, dd, ec, ed, yes⟩ := yes rfl
      refine codeAny_handlers_suite_as (HandSPX.lands_againZ fly3 fun g4 fly4 up4 => ?_)
      have J4 : Inv X pins σ1 H1 { s1 with heap := g4 } := J.landed nb fly4.1 ((up.trans up3).trans up4) os ag
      obtain ⟨o4, f4, e4, z4, d4⟩ := fly4.there
      refine store_ok (X := X.suite a ((a, o4) :: (X.pn ++ pins))) (v := .ref a) (J4.suite e4 d4 na nL nF) hN hi (.inl hln) rfl (fun s5 S5 => ?_) (.inr hln)
      refine wpAny_mono ((hsu a ((a, o4) :: (X.pn ++ pins))).run [] s5 _ H1 _ S5 (yes a na)) (fun f s6 q6 => ?_) (fun _ _ z => z.elim)
      cases f with
      | next =>
        obtain ⟨σ6, H6, S6, q6⟩ := q6
        refine gone_ok (X := X.suite a ((a, o4) :: (X.pn ++ pins))) (pins := []) S6 hN hi hln fun s7 S7 => ?_
        obtain ⟨e7, n7, _⟩ := S7.pin (a, o4) (List.mem_append_left _ List.mem_cons_self)
        refine ⟨_, _, track (S7.unsuite ok) n0 n7 nL (fun y c' ey z => ?_) nP (xob_ok (C := C) (d := dd) e7 (by rw [← ec, ← ed]; exact z4) d4), q6⟩
        obtain ⟨v, ob, q1, q2⟩ := S7.cell y c' ey
        subst z
        cases e7.symm.trans q1
        cases d4.symm.trans q2
      | brk =>
        obtain ⟨_, _, _, q6⟩ := q6
        exact q6.elim
      | cont =>
        obtain ⟨_, _, _, q6⟩ := q6
        exact q6.elim
      | ret u =>
        obtain ⟨_, _, _, _, _, q6⟩ := q6
        exact q6.elim
    | false =>
      show wpAny _ X.A (handleBy (.ref a) X.env []) _ _ _
      refine wpAny_handleBy_nil ?_
      obtain ⟨k1, k2, k3, ob, fl, T, oT, tl, he, hz, hd, h1, hr⟩ := id fly3
      unfold PySem.passOn
      refine wpAny_bind (wpAny_field he hd h1 ?_)
      rw [if_neg (show ¬ ((Value.ref T == Value.none) = true) from by simp)]
      have fin : wpAny (model X.prog X.w) X.A (setFlight (.ref a) X.env.frame) (fun _ s4 => wpAny (model X.prog X.w) X.A (throw (.ref a) : Sem Flow) (SP X pins D) X.xe s4) X.xe { s1 with heap := g3 } := by
        rw [hf]
        exact HandSPX.setFlight_upZ fly3 fun g4 held4 up4 => wpAny_throw (tk _ _ ⟨a, B, s0, pins, σ1, H1, cls, d, rfl, J, nb, (up.trans up3).trans up4, .inr (.inr (hs ▸ held4)), na, os, ag, no rfl⟩)
      first
        | exact wpAny_bind (wpAny_pure (wpAny_bind fin))
        | exact wpAny_bind fin
  · cases f with
    | next =>
      obtain ⟨σ1, H1, J, q⟩ := q
      exact wpAny_execs_nil ⟨σ1, H1, J.ofTry ok, q⟩
    | brk =>
      obtain ⟨σ1, H1, J, q⟩ := q
      exact ⟨σ1, H1, J.ofTry ok, q⟩
    | cont =>
      obtain ⟨σ1, H1, J, q⟩ := q
      exact ⟨σ1, H1, J.ofTry ok, q⟩
    | ret u =>
      obtain ⟨v, σ1, H1, J, r, q⟩ := q
      exact ⟨v, σ1, H1, J.ofTry ok, r, q⟩
end
/-- what is told of an own exception class -/
structure ExK (K : PySem.W.Frag) (C : Addr) : Prop where
  oex : OexC K C
  xf : XfC K C
  ec : ExcC K C
  nw : PySem.W.findIn K (.ref C) "what" = some none
/-- an exception object, tracked, with its fields -/
def XAt (H : Hp) (a C : Addr) (fs : List (Str × V)) : Prop := ∃ d, H a = some (XOb C d a) ∧ H d = some (.xd fs)
theorem XAt.same {H H' : Hp} {a C : Addr} {fs : List (Str × V)} (h : XAt H a C fs) (e : Same H H') : XAt H' a C fs := by
  obtain ⟨d, h1, h2⟩ := h
  exact ⟨d, e _ _ h1, e _ _ h2⟩
theorem xat_inst {X : Cx} {pins : List (Addr × Obj)} {σ : L2.St} {H : Hp} {s : Shared} {a C : Addr} {fs : List (Str × V)} (I : Inv X pins σ H s) (h : XAt H a C fs) : ∃ (ob od : Obj) (mA : Str → Option Value), PySem.W.InstAt s.heap a ob C (some od) ∧ (∀ name, PySem.W.lookIn name od = some (mA name)) ∧ ∀ f, RelO (fs.lookup f) (mA f) := by
  obtain ⟨d, h1, h2⟩ := h
  obtain ⟨⟨ob, fl, q1, q2, q3⟩, _, _⟩ := (show ObjOk X.prog X.w H s.heap a (XOb C d a) from I.hok a _ h1)
  obtain ⟨mA, hns, hr⟩ := (show ObjOk X.prog X.w H s.heap d (.xd fs) from I.hok d _ h2)
  obtain ⟨od, ho, hl⟩ := lookIn_ns hns
  exact ⟨ob, od, mA, ⟨q1, q2.1, by unfold PySem.W.notCls; rw [q3] <;> rfl, by rw [q2.2]; exact ho⟩, hl, hr⟩
/-- isinstance(e, c), e tracked -/
def rIsX (K : PySem.W.Frag) : List V → Hp → VK → Prop := fun xs H Q => ∃ (a C : Addr) (fs : List (Str × V)) (c : V) (cv : Value) (b : Bool), xs = [.ref a, c] ∧ XAt H a C fs ∧ ExK K C ∧ ClsV c cv ∧ PySem.W.kitOne K (.ref C) cv = some b ∧ Q (.bl b) H
def rIsXT (K : PySem.W.Frag) : List V → Hp → VK → Prop := fun xs H Q => ∃ (a C tp : Addr) (fs : List (Str × V)) (cs : List V) (us : List Value) (b : Bool), xs = [.ref a, .ref tp] ∧ H tp = some (.tup cs) ∧ XAt H a C fs ∧ ExK K C ∧ Paired ClsV cs us ∧ PySem.W.kitAny K (.ref C) us = some b ∧ Q (.bl b) H
theorem kit_x {K : PySem.W.Frag} {a C : Addr} {ob od : Obj} (E : ExK K C) : PySem.W.KitX K (.ref a) (.ref C) (fun h => PySem.W.InstAt h a ob C (some od)) := by
  obtain ⟨cd, hc, _⟩ := PySem.W.any_some E.ec.hd
  exact PySem.W.kitx_exc (by rw [hc]; rfl) E.ec.hg E.ec.hk E.ec.hs E.ec.ha E.ec.hn E.ec.ht E.ec.hm
theorem call_isX {X : Cx} : CallR X (.builtin "isinstance") (rIsX X.K) := by
  intro pins s σ H xs us Q I r h
  obtain ⟨a, C, fs, c, cv, b, rfl, hx, E, k, e, q⟩ := h
  obtain ⟨u1, u2, rfl, r1, r2⟩ := vals2 r
  cases (show u1 = Value.ref a from r1)
  have e2 := k.eq r2
  subst e2
  obtain ⟨ob, od, mA, J, _, _⟩ := xat_inst I hx
  exact PySem.W.kia_one (kit_x E) I.kIn J e (fun z => nomatch z) fun tk => ⟨.bl b, H, I.tok tk, rfl, q⟩
theorem call_isXT {X : Cx} : CallR X (.builtin "isinstance") (rIsXT X.K) := by
  intro pins s σ H xs us Q I r h
  obtain ⟨a, C, tp, fs, cs, ws, b, rfl, hT, hx, E, k, e, q⟩ := h
  obtain ⟨u1, u2, rfl, r1, r2⟩ := vals2 r
  cases (show u1 = Value.ref a from r1)
  cases (show u2 = Value.ref tp from r2)
  obtain ⟨ob, od, mA, J, _, _⟩ := xat_inst I hx
  obtain ⟨_, its, rv, o, h1, h2, n, h3⟩ := (show ObjOk X.prog X.w H s.heap tp (.tup cs) from I.hok tp _ hT)
  have e3 := ClsV.all k rv
  subst e3
  rcases o with ⟨oc, od', dt, sl⟩
  dsimp only at h2 h3
  cases h2
  cases h3
  exact PySem.W.kia_tup (kit_x E) I.kIn J h1 e (fun z => nomatch z) fun tk => ⟨.bl b, H, I.tok tk, rfl, q⟩
/-- e.f, e tracked -/
def tXw (K : PySem.W.Frag) (f : Str) (te : TE) : TE := fun σ H Q => te σ H fun x H1 => ∃ (a C : Addr) (fs : List (Str × V)) (v : V), x = .ref a ∧ XAt H1 a C fs ∧ ExK K C ∧ PySem.W.findIn K (.ref C) f = some none ∧ fs.lookup f = some v ∧ Q v H1
theorem pe_xw {X : Cx} {e : Expr} {te : TE} {pos : Pos} {n : Str} (he : PE X e te) (hb : attributeBase e n X.env (eval e X.env) = eval e X.env := by rfl) : PE X (.Attribute e n pos) (tXw X.K n te) := by
  refine ⟨fun pins s σ H Q I h => attr_of hb (thn (he.run pins s σ H _ I h) fun u s1 hh => ?_)⟩
  obtain ⟨x, H1, I1, rx, a, C, fs, v, ex, hx, E, hno, l, q⟩ := hh
  subst ex
  cases (show u = Value.ref a from rx)
  obtain ⟨ob, od, mA, J, hl, hr⟩ := xat_inst I1 hx
  obtain ⟨u, hu, ru⟩ := RelO.some_of (v := v) (o := mA n) (by rw [← l]; exact hr n)
  exact HandSPX.exc_get I1.kIn J E.xf.ga E.xf.gg E.xf.exC (PySem.W.findObj_own E.xf.hdC hno rfl (by rw [hl, hu])) (handed_of ru) ⟨v, H1, I1.tok _, ru, q⟩
/-! ### methods and classes, what they raise wished for at the caller's slots -/
def tMethS (C : Addr) (m : Str) (sp : Sp) (E : L2.St → XK) (ta : TE) (t : TA) : TE := fun σ H Q => ta σ H fun x H1 => ∃ a dx fs, x = .ref a ∧ H1 a = some (.ins C dx fs) ∧ fs.lookup m = none ∧ t σ H1 fun vs H2 => sp (x :: vs) H2 Q (E σ)
def tMakeS (C : Addr) (sp : Sp) (E : L2.St → XK) (t : TA) : TE := fun σ H Q => t σ H fun vs H1 => ∀ x dx, H1 x = none → H1 dx = none → dx ≠ x → sp (.ref x :: vs) (upd (upd H1 dx (.own x)) x (.ins C dx [])) (fun v H2 => v = .non ∧ Q (.ref x) H2) (E σ)
section
variable {X : Cx} {CX : CXT} {k : Nat} {f C : Addr} {fd : FuncData} {ps : List Str} {sp : Sp} {E : L2.St → XK} {x m : Str} {p pos apos : Pos} {e o : Expr} {es : List Expr} {ta : TE} {t : TA}
theorem pe_methS {pl : Sem Bool} (he : PE X o ta) (c : L2.Cls X.K C) (hm : Meth X.K C m f) (F : FnOk X.prog X.w X.K X.mg X.base CX k f fd ps sp) (hr : Room k X.A) (hb : Binds X.K fd ps []) (hx : ∀ σ, PassesAt CX X σ (E σ)) (ha : PA X (e :: es) t)
    (hst : starEach (e :: es) X.env = (false, eval e X.env) :: starEach es X.env := by rfl) (hpl : (backTo pos (starEach es X.env)).any (·.1) = false := by rfl)
    (ht : eval (.Call (.Attribute o m apos) (e :: es) [] pos) X.env = (do
      let ov ← eval o X.env
      standAt apos.atName
      let (f, first) ← holding [ov] (getMethod ov m pl)
      callWith pos f first (backTo pos (starEach (e :: es) X.env)) (backToKw pos (keywordEach [] X.env))) := by rfl) : PE X (.Call (.Attribute o m apos) (e :: es) [] pos) (tMethS C m sp E ta t) := by
  refine ⟨fun pins s σ H Q I h => PySem.W.methodCall_KW (pl := pl) (thn (he.run pins s σ H _ I h) fun u s1 q1 => ?_) ht⟩
  obtain ⟨y, H1, I1, ry, a, dx, fs, ey, ea, l, q⟩ := q1
  subst ey
  cases (show u = Value.ref a from ry)
  refine getmeth_ok I1 ea c hm l (PySem.W.callWith_K (first := [.ref a]) (h₀ := X.base) I.ok.mod.kin hm.kp (thn (ha.run pos pins s1 σ H1 _ I1 q) fun us s2 q2 => ?_) hst hpl)
  obtain ⟨vs, H2, I2, r, q2⟩ := q2
  exact ⟨I2.kIn, run_fnS (us := .ref a :: us) (vs := .ref a :: vs) F hr hb (hx σ) I2 (.cons rfl r) q2⟩
theorem run_makeS {pins : List (Addr × Obj)} {σ : L2.St} {H : Hp} {s : Shared} {Q : VK} {us : List Value} {vs : List V} (M : Mk X.K C f) (F : FnOk X.prog X.w X.K X.mg X.base CX k f fd ps sp) (hr : Room (k + 1) X.A) (hb : Binds X.K fd ps []) (hx : PassesAt CX X σ (E σ)) (I : Inv X pins σ H s) (r : Vals vs us)
    (h : ∀ y dx, H y = none → H dx = none → dx ≠ y → sp (.ref y :: vs) (upd (upd H dx (.own y)) y (.ins C dx [])) (fun v H2 => v = .non ∧ Q (.ref y) H2) (E σ)) : wpAny (model X.prog X.w) X.A (call (.ref C) us) (EP X pins σ Q) X.xe s := by
  have hq := h (s.heap.objs.size + 1) s.heap.objs.size (I.hok.fresh (Nat.le_succ _)) (I.hok.fresh (Nat.le_refl _)) (Nat.ne_of_lt (Nat.lt_succ_self _))
  have J := Inv.made (C := C) I
  have r2 : Vals (V.ref (s.heap.objs.size + 1) :: vs) (Value.ref (s.heap.objs.size + 1) :: us) := .cons rfl r
  have hl : (Value.ref (s.heap.objs.size + 1) :: us).length = ps.length := r2.length.symm.trans (F.len _ _ _ _ hq)
  have bi := hb _ (Value.ref (s.heap.objs.size + 1) :: us) J.kIn (by rw [List.append_nil]; exact hl)
  rw [List.append_nil] at bi
  refine wpAny_call (make_map (f := f) I.kIn M.makes M.init (beq_iff_eq.mp M.fn) (codeAny_mono (F.run _ X.stack _ _ ⟨_, []⟩ _ _ _ (E σ) (hr.make C us []) (J.env0.make C us []) bi r2 hq) fun rs s1 q1 => ?_))
  cases rs with
  | error er => exact hx pins _ _ er s1 J q1
  | ok fl =>
    cases fl with
    | ret u =>
      obtain ⟨v, H3, I3, rv, ev, q3⟩ := J.after q1
      subst ev
      exact ⟨rv, ⟨V.ref (s.heap.objs.size + 1), H3, I3, rfl, q3⟩⟩
    | next => exact q1.elim
    | brk => exact q1.elim
    | cont => exact q1.elim
theorem pe_makeS (M : Mk X.K C f) (F : FnOk X.prog X.w X.K X.mg X.base CX k f fd ps sp) (hr : Room (k + 1) X.A) (hg : Gl X x) (hm : X.mg x = some (.ref C)) (hb : Binds X.K fd ps []) (hx : ∀ σ, PassesAt CX X σ (E σ)) (ha : PA X (e :: es) t)
    (hdb : (x == ("__debug__" : Str)) = false := by decide) (he : starEach (e :: es) X.env = (false, eval e X.env) :: starEach es X.env := by rfl) (hpl : (backTo pos (starEach es X.env)).any (·.1) = false := by rfl) : PE X (.Call (.Name x p) (e :: es) [] pos) (tMakeS C sp E t) := by
  refine ⟨fun pins s σ H Q I h => wpAny_Call_Name_kw (ld_glob I hg hm (PySem.W.callWith_K (h₀ := X.base) I.ok.mod.kin M.kp (thn (ha.run pos pins s σ H _ I h) fun us s1 q1 => ?_) he hpl) hdb)⟩
  obtain ⟨vs, H1, I1, r, q⟩ := q1
  exact ⟨I1.kIn, run_makeS M F hr hb (hx σ) I1 r q⟩
end
/-! ### the drawing -/
theorem log2_lt60 {t : Int} (h0 : 0 < t) (h : t < 1152921504606846976) : t.natAbs.log2 < 9000 := by
  have h1 : t.natAbs < 2 ^ 60 := by
    have : (2 : Nat) ^ 60 = 1152921504606846976 := by decide
    omega
  exact Nat.lt_trans ((Nat.log2_lt (by omega)).mpr h1) (by decide)
abbrev s__law_take : Stmt := top 12
abbrev N__law_take : List Str := ["_law_box_here", "_law_top", "_law_found", "_law_once"]
abbrev P__law_take : List Str := ["_law_box_here", "_law_top"]
theorem sc__law_take : FnScope N__law_take P__law_take (defScope s__law_take) := ⟨rfl, rfl, rfl, by decide +kernel, rfl, by decide +kernel, by decide +kernel⟩
def spTake : Sp := fun vs H Q _ => ∃ (b : Addr) (top n : Int), vs = [.ref b, .int top] ∧ BoxAt H b n ∧ 0 < top ∧ top < 1152921504606846976 ∧ n < 1048576 ∧ ∀ r H', 0 ≤ r → r < top → Keep b H H' → BoxAt H' b (n + 1) → Q (.int r) H'
section
variable {P : Program} {w : World} {K : PySem.W.Frag} {mg : Str → Option Value} {base : Heap}
theorem ok_take {f : Addr} {fd : FuncData} {k : Nat} (F : Fun K "_law_take" "_law_take" s__law_take f fd) : FnOk P w K mg base CX0 (k + 1) f fd P__law_take spTake := by
  have nd := sc__law_take.nd
  refine F.ok sc__law_take (fun vs H Q E h => ?_) (fun cdv A outer s H vs Q E hr h => ?_)
  · obtain ⟨b, top, n, rfl, _⟩ := h
    rfl
  · obtain ⟨b, top, n, rfl, ⟨x, y, z, hb, hx, hy, hy2, hz, hzn⟩, ht, ht2, hn, q⟩ := h
    refine ⟨_, (pss_cons (ps_if (pt_cmpR op_gt (pe_ix (r := rIxL K) ix_list (pv 0) (pe_int) (fun _ _ => rfl)) (pe_int) (nomark _)) (pss_cons (ps_set (i := 2) nd rfl (Or.inl rfl) (pe_op op_mod (pe_ix (r := rIxL K) ix_list (pv 0) (pe_int) (fun _ _ => rfl)) (pv 1)))
      (pss_cons (ps_asg (pe_op op_fdivW (pe_ix (r := rIxL K) ix_list (pv 0) (pe_int) (fun _ _ => rfl)) (pv 1)) (pg_sub (pv 0) (pe_int) set_list))
      (pss_one (ps_ret (pv 2))))) pss_nil)
      (pss_cons (ps_asg (pe_op op_add (pe_ix (r := rIxL K) ix_list (pv 0) (pe_int) (fun _ _ => rfl)) (pe_int)) (pg_sub (pv 0) (pe_int) set_list))
      (pss_cons (ps_set (i := 3) nd rfl (Or.inl rfl) (pe_op op_mod (pe_op op_pow (pe_op op_add (pe_ix (r := rIxL K) ix_list (pv 0) (pe_int) (fun _ _ => rfl)) (pe_op op_mul (pe_int) (pe_ix (r := rIxL K) ix_list (pv 0) (pe_int) (fun _ _ => rfl)))) (pe_int)) (pe_int)))
      (pss_one (ps_ret (pe_op op_mod (pe_op op_fdivW (pe_op op_mod (pe_op op_add (pe_op op_mul (pv 3) (pe_op op_add (pe_op op_mod (pv 3) (pe_int)) (pe_int))) (pe_op op_mul (pe_ix (r := rIxL K) ix_list (pv 0) (pe_int) (fun _ _ => rfl)) (pe_int))) (pe_int)) (pe_int)) (pv 1))))))), ?_⟩
    have hL : SqL K H b [.int x, .int y, .int z] := SqL.of hb
    have cw : ∀ i : Int, CDivW i top := fun i => ⟨ht, log2_lt60 ht ht2⟩
    have cw6 : ∀ i : Int, CDivW i 64 := fun i => ⟨by decide, by decide⟩
    have cw1 := cw x
    walk_at "ev"
    refine ite2 (fun e => ?_) (fun e => ?_)
    · have e1 : 0 < x := of_decide_eq_true e
      walk_at "ev"
      exact q _ _ (Int.emod_nonneg _ (by omega)) (Int.emod_lt_of_pos _ ht) (keep_upd (Keep.refl _ _)) ⟨_, _, _, upd_same, Int.ediv_nonneg hx (by omega), hy, hy2, hz, by omega⟩
    · walk_at "ev"
      exact q _ _ (Int.emod_nonneg _ (by omega)) (Int.emod_lt_of_pos _ ht) (keep_upd (Keep.refl _ _)) ⟨_, _, _, upd_same, hx, hy, hy2, by omega, by omega⟩
end
abbrev s__law_box : Stmt := top 11
abbrev N__law_box : List Str := ["_law_script", "_law_k", "_law_cell"]
abbrev P__law_box : List Str := ["_law_script", "_law_k"]
theorem sc__law_box : FnScope N__law_box P__law_box (defScope s__law_box) := ⟨rfl, rfl, rfl, by decide +kernel, rfl, by decide +kernel, by decide +kernel⟩
def spBox (K : PySem.W.Frag) : Sp := fun vs H Q _ => ∃ (a : Addr) (ns : List Int) (k : Int), vs = [.ref a, .int k] ∧ SqL K H a (ns.map V.int) ∧ 0 ≤ k ∧ k ≤ 100000 ∧ ∀ p H', H p = none → Same H H' → BoxAt H' p 0 → Q (.ref p) H'
section
variable {P : Program} {w : World} {K : PySem.W.Frag} {mg : Str → Option Value} {base : Heap}
theorem ok_box {f : Addr} {fd : FuncData} {k : Nat} (F : Fun K "_law_box" "_law_box" s__law_box f fd) (T : Blt mg) : FnOk P w K mg base CX0 (k + 1) f fd P__law_box (spBox K) := by
  have nd := sc__law_box.nd
  refine F.ok sc__law_box (fun vs H Q E h => ?_) (fun cdv A outer s H vs Q E hr h => ?_)
  · obtain ⟨b, top, n, rfl, _⟩ := h
    rfl
  · obtain ⟨a, ns, k, rfl, hL, h0, h1, q⟩ := h
    refine ⟨_, (pss_cons (ps_set (i := 2) nd rfl (Or.inl rfl) (pe_int))
      (pss_cons (ps_if (pt_cmpR op_lt (pv 1) (pe_callB (r := rLenQ K) call_len_seq (by rfl) T.b_len (by decide +kernel) (pa_cons (pv 0) pa_nil)) (nomark _)) (pss_one (ps_set (i := 2) nd rfl (Or.inl rfl) (pe_ix (r := rIxL K) ix_list (pv 0) (pv 1) (fun _ _ => rfl)))) pss_nil)
      (pss_one (ps_ret (pe_lst (pa_cons (pe_op op_mul (pe_callB call_abs (by rfl) T.b_abs (by decide +kernel) (pa_cons (pv 2) pa_nil)) (pe_callTy call_int1 (by rfl) T.b_int (by decide +kernel) (pa_cons (pe_cmpR op_ge (pe_callB call_abs (by rfl) T.b_abs (by decide +kernel) (pa_cons (pv 2) pa_nil)) (pe_op op_pow (pe_int) (pe_int)) (nomark _)) pa_nil))) (pa_cons (pe_op op_add (pe_op op_add (pe_op op_mod (pv 2) (pe_int)) (pe_op op_mul (pe_int) (pv 1))) (pe_int)) (pa_cons (pe_int) pa_nil)))))))), ?_⟩
    have fin : ∀ c : Int, ∀ p, H p = none → Q (.ref p) (upd H p (.lst [.int ((if c < 0 then -c else c) * (if decide ((10 : Int) ^ 18 ≤ if c < 0 then -c else c) then 1 else 0)), .int (c % 2147483629 + 7919 * k + 11), .int 0])) := by
      intro c p hp
      refine q p _ hp (same_new hp) ⟨_, _, _, upd_same, ?_, ?_, ?_, by omega, by omega⟩
      · refine Int.mul_nonneg ?_ ?_
        · split <;> omega
        · split <;> omega
      · have := Int.emod_nonneg c (show (2147483629 : Int) ≠ 0 by decide)
        omega
      · have := Int.emod_lt_of_pos c (show (0 : Int) < 2147483629 by decide)
        omega
    walk_at "ev"
    refine ite2 (fun e => ?_) (fun e => ?_)
    · have e1 : k < ((ns.map V.int).length : Int) := of_decide_eq_true e
      rw [List.length_map] at e1
      obtain ⟨c, hc, hat⟩ := at_ints h0 e1
      walk_at "ev"
      exact fin c
    · walk_at "ev"
      exact fin 0
end
/-! ### kinds of things -/
inductive Kd (K : PySem.W.Frag) (H : Hp) : V → String → Prop
  | non : Kd K H .non "NoneType"
  | bl (b : Bool) : Kd K H (.bl b) "bool"
  | int (i : Int) : Kd K H (.int i) "int"
  | str (x : Str) : Kd K H (.str x) "str"
  | lst {a : Addr} {xs : List V} : SqL K H a xs → Kd K H (.ref a) "list"
  | tup {a : Addr} {xs : List V} : SqT K H a xs → Kd K H (.ref a) "tuple"
theorem Kd.ty {K : PySem.W.Frag} {H : Hp} {x : V} {t : String} (h : Kd K H x t) : TyX K H x (.type t) := by
  cases h with
  | non => exact .base .non
  | bl b => exact .base (.bl b)
  | int i => exact .base (.int i)
  | str x => exact .base (.str x)
  | lst h =>
    rcases h with (h | ⟨o, h⟩) | ⟨o, its, n, h1, h2, _⟩
    · exact .base (.lst h)
    · exact .base (.frz h)
    · exact .kList h1 h2
  | tup h =>
    rcases h with (h | ⟨o, h⟩) | ⟨o, its, n, h1, h2, _⟩
    · exact .base (.tup h)
    · exact .fTuple h
    · exact .kTuple h1 h2
theorem Kd.same {K : PySem.W.Frag} {H H' : Hp} {x : V} {t : String} (h : Kd K H x t) (e : Same H H') : Kd K H' x t := by
  cases h with
  | non => exact .non
  | bl b => exact .bl b
  | int i => exact .int i
  | str x => exact .str x
  | lst h => exact .lst (e.seq h)
  | tup h => exact .tup (same_t e h)
def tis (t c : String) : Bool := t == c || (t == "bool" && c == "int")
theorem Kd.kit {K : PySem.W.Frag} {H : Hp} {x : V} {t : String} (h : Kd K H x t) : PySem.W.kitOne K (.type t) (.type "int") = some (tis t "int") ∧ PySem.W.kitOne K (.type t) (.type "bool") = some (tis t "bool") ∧ PySem.W.kitOne K (.type t) (.type "str") = some (tis t "str") ∧ PySem.W.kitOne K (.type t) (.type "list") = some (tis t "list") ∧ PySem.W.kitOne K (.type t) (.type "tuple") = some (tis t "tuple") := by
  cases h <;> exact ⟨kit_ty (by decide +kernel), kit_ty (by decide +kernel), kit_ty (by decide +kernel), kit_ty (by decide +kernel), kit_ty (by decide +kernel)⟩
theorem kit_lt {K : PySem.W.Frag} {t : String} {a b : Bool} (h1 : PySem.W.kitOne K (.type t) (.type "list") = some a) (h2 : PySem.W.kitOne K (.type t) (.type "tuple") = some b) : PySem.W.kitAny K (.type t) [.type "list", .type "tuple"] = some (a || b) := by
  refine kitAny_cons h1 (fun e => kitAny_cons h2 (fun e2 => ?_) (fun e2 => ?_)) (fun e => by rw [e]; rfl)
  · rw [e, e2]
    exact kitAny_nil
  · rw [e, e2]
    rfl
/-! ### == of lists of ints -/
theorem dp_ints {K : PySem.W.Frag} {H : Hp} : ∀ ns : List Int, DpAll K H (ns.map V.int) (ns.map PyData.int)
  | [] => .nil
  | n :: r => .cons (.int n) (dp_ints r)
theorem eqv_ints : ∀ ns ms : List Int, PyData.eqvAll (ns.map PyData.int) (ms.map PyData.int) = decide (ns = ms)
  | [], [] => by simp [PyData.eqvAll]
  | [], _ :: _ => by simp [PyData.eqvAll]
  | _ :: _, [] => by simp [PyData.eqvAll]
  | a :: r, b :: t => by
    simp only [List.map_cons, PyData.eqvAll, PyData.eqv, eqv_ints r t]
    by_cases h : a = b <;> by_cases h' : r = t <;> simp [h, h']
theorem eqd_ints {K : PySem.W.Frag} {H : Hp} {a b : Addr} {ns ms : List Int} {Q : VK} (ha : SqL K H a (ns.map V.int)) (hb : SqL K H b (ms.map V.int)) (q : Q (.bl (decide (ns = ms))) H) : rEqD K (.ref a) (.ref b) H Q := by
  refine ⟨_, _, .lst ha (dp_ints ns), .lst hb (dp_ints ms), PySem.W.ke_shaped_ints ns, PySem.W.ke_shaped_ints ms, ?_⟩
  have e : PyData.eqv (.list (ns.map PyData.int)) (.list (ms.map PyData.int)) = decide (ns = ms) := by
    rw [PyData.eqv]
    exact eqv_ints ns ms
  rw [e]
  exact q
/-! ### the law's own comparing, of like things -/
abbrev s__law_same : Stmt := top 14
abbrev N__law_same : List Str := ["_law_found", "_law_due", "_law_one", "_law_two"]
abbrev P__law_same : List Str := ["_law_found", "_law_due"]
theorem sc__law_same : FnScope N__law_same P__law_same (defScope s__law_same) := ⟨rfl, rfl, rfl, by decide +kernel, rfl, by decide +kernel, by decide +kernel⟩
def Fit : Nat → PyData → Prop
  | 0, .list _ => False
  | 0, .tuple _ => False
  | n + 1, .list ds => ds.length ≤ 4000 ∧ ∀ e ∈ ds, Fit n e
  | n + 1, .tuple ds => ds.length ≤ 4000 ∧ ∀ e ∈ ds, Fit n e
  | _, .dict _ => False
  | _, _ => True
theorem dpall_len {K : PySem.W.Frag} {H : Hp} : ∀ {xs : List V} {ds : List PyData}, DpAll K H xs ds → xs.length = ds.length
  | _, _, .nil => rfl
  | _, _, .cons _ h => by rw [List.length_cons, List.length_cons, dpall_len h]
theorem dpall_get {K : PySem.W.Frag} {H : Hp} : ∀ {xs : List V} {ds : List PyData} {i : Nat} {x : V}, DpAll K H xs ds → xs[i]? = some x → ∃ d, ds[i]? = some d ∧ Dp K H x d
  | _, _, _, _, .nil, h => by simp at h
  | _, _, 0, _, .cons (d := d) h1 h2, h => ⟨d, rfl, by
      have e := Option.some.inj h
      rw [← e]
      exact h1⟩
  | _, _, i + 1, _, .cons h1 h2, h => dpall_get (i := i) h2 h
mutual
theorem dp_same {K : PySem.W.Frag} {H H' : Hp} (e : Same H H') : ∀ {x : V} {d : PyData}, Dp K H x d → Dp K H' x d
  | _, _, .non => .non
  | _, _, .bl b => .bl b
  | _, _, .int i => .int i
  | _, _, .str x => .str x
  | _, _, .lst h a => .lst (e.seq h) (dpall_same e a)
  | _, _, .tup h a => .tup (same_t e h) (dpall_same e a)
theorem dpall_same {K : PySem.W.Frag} {H H' : Hp} (e : Same H H') : ∀ {xs : List V} {ds : List PyData}, DpAll K H xs ds → DpAll K H' xs ds
  | _, _, .nil => .nil
  | _, _, .cons h a => .cons (dp_same e h) (dpall_same e a)
end
def spSame (K : PySem.W.Frag) (n : Nat) : Sp := fun vs H Q _ => ∃ (x y : V) (d : PyData), vs = [x, y] ∧ Dp K H x d ∧ Dp K H y d ∧ Fit n d ∧ ∀ H', Same H H' → Q (.bl true) H'
/-- a comprehension over pairs -/
theorem lc_pairs {J : It} {xs ys : List V} {g : TG} {tt : TT} {te : TE} {vs : List Nat} {σ : L2.St} {H1 : Hp} {D : Addr} {Qd : Hp → Prop} (Pv : Nat → Hp → Prop) (h0 : Pv 0 (upd H1 D (.lst [])))
    (hgo : ∀ i H, Pv i H → i < xs.length → J.go i H) (hy : ∀ i H v H', Pv i H → i < xs.length → J.yld i H v H' → ∃ T x y, v = .ref T ∧ H T = none ∧ H' = upd H T (.tup [x, y]) ∧ xs[i]? = some x ∧ ys[i]? = some y)
    (hst : ∀ H, Pv xs.length H → J.stop xs.length H)
    (hs : ∀ i x y T H H', xs[i]? = some x → ys[i]? = some y → Pv i H → H T = none → H' = upd H T (.tup [x, y]) → g (.ref T) (wipe σ vs) H' fun σ2 H2 => wipe σ2 vs = wipe σ vs ∧ tt σ2 H2 fun b H3 =>
      if b = true then te σ2 H3 fun y H4 => ∃ acc, H4 D = some (.lst acc) ∧ acc.length < sizeLine ∧ Pv (i + 1) (upd H4 D (.lst (acc ++ [y]))) else Pv (i + 1) H3) (hd : ∀ H, Pv xs.length H → Qd H) :
    ∃ W : Nat → Nat → Hp → Prop, (∃ m, W 0 m (upd H1 D (.lst []))) ∧ ∀ i m H, W i m H →
      (J.stop i H ∧ Qd H) ∨ (J.go i H ∧ ∃ Nx : Hp → Prop, (∀ H', Nx H' → ∃ m', m' < m ∧ W (i + 1) m' H') ∧ ∀ x H', J.yld i H x H' → g x (wipe σ vs) H' fun σ2 H2 => wipe σ2 vs = wipe σ vs ∧ tt σ2 H2 fun b H3 =>
        if b = true then te σ2 H3 fun y H4 => ∃ acc, H4 D = some (.lst acc) ∧ acc.length < sizeLine ∧ Nx (upd H4 D (.lst (acc ++ [y]))) else Nx H3) := by
  refine ⟨fun i m H => m = xs.length - i ∧ i ≤ xs.length ∧ Pv i H, ⟨xs.length, by simp, Nat.zero_le _, h0⟩, ?_⟩
  rintro i m H ⟨rfl, hi, p⟩
  by_cases hlt : i < xs.length
  · refine .inr ⟨hgo i H p hlt, Pv (i + 1), fun H' p' => ⟨xs.length - (i + 1), by omega, rfl, hlt, p'⟩, fun v H' yl => ?_⟩
    obtain ⟨T, x, y, rfl, hT, e, f1, f2⟩ := hy i H v H' p hlt yl
    exact hs i x y T H H' f1 f2 p hT e
  · have e : i = xs.length := by omega
    subst e
    exact .inl ⟨hst H p, hd H p⟩
theorem q_dec {Q : VK} {x : V} {H : Hp} (h : Q (.bl true) H) : Q (.bl (decide (x = x))) H := by
  rw [decide_eq_true rfl]
  exact h
theorem all_true : ∀ n : Nat, (List.replicate n true).all id = true
  | 0 => rfl
  | n + 1 => by
    rw [List.replicate_succ, List.all_cons, all_true n]
    rfl
section
variable {P : Program} {w : World} {K : PySem.W.Frag} {mg : Str → Option Value} {base : Heap}
theorem same_step {f : Addr} {fd : FuncData} {n : Nat} {spI : Sp} (D__law_same : Df K mg "_law_same" s__law_same P__law_same f fd) (T : Blt mg) (G__law_same : FnOk P w K mg base CX0 n f fd P__law_same spI) (hG : ∀ m, n = m + 1 → spI = spSame K m) : FnOk P w K mg base CX0 (n + 1) f fd P__law_same (spSame K n) := by
  have nd := sc__law_same.nd
  refine D__law_same.F.ok sc__law_same (fun vs H Q E h => ?_) (fun cdv A outer s H vs Q E hr h => ?_)
  · obtain ⟨x, y, d, rfl, _⟩ := h
    rfl
  · obtain ⟨x, y, d, rfl, hx, hy, hf, q⟩ := h
    refine ⟨_, (pss_cons (ps_if (pt_val (pe_callB (r := rIsiT K) call_isiT (by rfl) T.b_isinstance (by decide +kernel) (pa_cons (pv 1) (pa_cons (pe_tup (pa_cons (pe_bltn (v := .ty "list") (by rfl) T.b_list (by decide +kernel) rfl) (pa_cons (pe_bltn (v := .ty "tuple") (by rfl) T.b_tuple (by decide +kernel) rfl) pa_nil))) pa_nil)))) (pss_cons (ps_if (PW.pt (pw_or (pt_cmpR op_ne (pe_callB (r := rIsi K) call_isi (by rfl) T.b_isinstance (by decide +kernel) (pa_cons (pv 0) (pa_cons (pe_bltn (v := .ty "list") (by rfl) T.b_list (by decide +kernel) rfl) pa_nil))) (pe_callB (r := rIsi K) call_isi (by rfl) T.b_isinstance (by decide +kernel) (pa_cons (pv 1) (pa_cons (pe_bltn (v := .ty "list") (by rfl) T.b_list (by decide +kernel) rfl) pa_nil))) (nomark _)) (pw_or1 (pt_cmpR op_ne (pe_callB (r := rIsi K) call_isi (by rfl) T.b_isinstance (by decide +kernel) (pa_cons (pv 0) (pa_cons (pe_bltn (v := .ty "tuple") (by rfl) T.b_tuple (by decide +kernel) rfl) pa_nil))) (pe_callB (r := rIsi K) call_isi (by rfl) T.b_isinstance (by decide +kernel) (pa_cons (pv 1) (pa_cons (pe_bltn (v := .ty "tuple") (by rfl) T.b_tuple (by decide +kernel) rfl) pa_nil))) (nomark _))))) (pss_one (ps_ret (pe_bl))) pss_nil)
      (pss_cons (ps_if (pt_cmpR op_ne (pe_callB (r := rLenQ K) call_len_seq (by rfl) T.b_len (by decide +kernel) (pa_cons (pv 0) pa_nil)) (pe_callB (r := rLenQ K) call_len_seq (by rfl) T.b_len (by decide +kernel) (pa_cons (pv 1) pa_nil)) (nomark _)) (pss_one (ps_ret (pe_bl))) pss_nil)
      (pss_one (ps_ret (pe_callB (r := rAll K) (cr_all rfl) (by rfl) T.b_all (by decide +kernel) (pa_cons (pe_lc (own := [("_law_one", 2), ("_law_two", 3)]) (g := gTup K 2 (gCons (gName 2) (gCons (gName 3) gNil))) (by rfl) nd (RZ.pi_zipA (by rfl) T.b_zip (pa_cons (pv 0) (pa_cons (pv 1) pa_nil))) (blkOk_by (own := [("_law_one", 2), ("_law_two", 3)]) (N := N__law_same) (sc := defScope s__law_same) (by decide +kernel)) (fun _ _ _ _ _ => (pg_tup (by rfl) (pgs_cons (pg_name (i := 2) nd rfl (Or.inl rfl)) (pgs_cons (pg_name (i := 3) nd rfl (Or.inl rfl)) pgs_nil)))) (fun _ _ _ _ _ => pts_nil) (fun _ _ _ _ _ => (pe_call G__law_same (hr.mono (by omega)) (by rfl) D__law_same.g D__law_same.F.kp D__law_same.b .nil pass0 (pa_cons (pv 2) (pa_cons (pv 3) pa_nil))))) pa_nil)))))) pss_nil)
      (pss_cons (ps_if (PW.pt (pw_or (pt_cmpR op_isN (pv 1) (pe_non) (nomark _)) (pw_or1 (pt_val (pe_callB (r := rIsi K) call_isi (by rfl) T.b_isinstance (by decide +kernel) (pa_cons (pv 1) (pa_cons (pe_bltn (v := .ty "str") (by rfl) T.b_str (by decide +kernel) rfl) pa_nil))))))) (pss_one (ps_ret (pe_and (pe_cmpR op_eq (pv 0) (pv 1) (nomark _)) (pe_one (pe_cmpR op_eq (pe_callB (r := rIsi K) call_isi (by rfl) T.b_isinstance (by decide +kernel) (pa_cons (pv 0) (pa_cons (pe_bltn (v := .ty "str") (by rfl) T.b_str (by decide +kernel) rfl) pa_nil))) (pe_callB (r := rIsi K) call_isi (by rfl) T.b_isinstance (by decide +kernel) (pa_cons (pv 1) (pa_cons (pe_bltn (v := .ty "str") (by rfl) T.b_str (by decide +kernel) rfl) pa_nil))) (nomark _)))))) pss_nil)
      (pss_one (ps_ret (pe_and (pe_callB (r := rIsi K) call_isi (by rfl) T.b_isinstance (by decide +kernel) (pa_cons (pv 0) (pa_cons (pe_bltn (v := .ty "int") (by rfl) T.b_int (by decide +kernel) rfl) pa_nil))) (pe_and (pe_cmpR op_eq (pe_callB (r := rIsi K) call_isi (by rfl) T.b_isinstance (by decide +kernel) (pa_cons (pv 0) (pa_cons (pe_bltn (v := .ty "bool") (by rfl) T.b_bool (by decide +kernel) rfl) pa_nil))) (pe_callB (r := rIsi K) call_isi (by rfl) T.b_isinstance (by decide +kernel) (pa_cons (pv 1) (pa_cons (pe_bltn (v := .ty "bool") (by rfl) T.b_bool (by decide +kernel) rfl) pa_nil))) (nomark _)) (pe_one (pe_cmpR op_eq (pv 0) (pv 1) (nomark _))))))))), ?_⟩
    cases hx with
    | non =>
      cases hy
      walk_at "ev"
      intro p hp
      generalize hH : upd _ p _ = H1
      obtain ⟨sm, hp1⟩ := newO hH hp
      have kd : Kd K H1 .non "NoneType" := .non
      have ty := kd.ty
      obtain ⟨k1, k2, k3, k4, k5⟩ := kd.kit
      have ka := kit_lt k4 k5
      walk_at "ev"
      exact q_dec (q _ sm)
    | bl b =>
      cases hy
      walk_at "ev"
      intro p hp
      generalize hH : upd _ p _ = H1
      obtain ⟨sm, hp1⟩ := newO hH hp
      have kd : Kd K H1 (.bl b) "bool" := .bl b
      have ty := kd.ty
      obtain ⟨k1, k2, k3, k4, k5⟩ := kd.kit
      have ka := kit_lt k4 k5
      walk_at "ev"
      exact q_dec (q _ sm)
    | int i =>
      cases hy
      walk_at "ev"
      intro p hp
      generalize hH : upd _ p _ = H1
      obtain ⟨sm, hp1⟩ := newO hH hp
      have kd : Kd K H1 (.int i) "int" := .int i
      have ty := kd.ty
      obtain ⟨k1, k2, k3, k4, k5⟩ := kd.kit
      have ka := kit_lt k4 k5
      walk_at "ev"
      exact q_dec (q _ sm)
    | str z =>
      cases hy
      walk_at "ev"
      intro p hp
      generalize hH : upd _ p _ = H1
      obtain ⟨sm, hp1⟩ := newO hH hp
      have kd : Kd K H1 (.str z) "str" := .str z
      have ty := kd.ty
      obtain ⟨k1, k2, k3, k4, k5⟩ := kd.kit
      have ka := kit_lt k4 k5
      walk_at "ev"
      exact q_dec (q _ sm)
    | lst hs ha =>
      rename_i a xs ds
      cases hy with
      | lst ht hb =>
      rename_i b ys
      have el : ys.length = xs.length := (dpall_len hb).trans (dpall_len ha).symm
      have el' : V.int (xs.length : Int) = V.int (ys.length : Int) := by rw [el]
      cases n with
      | zero => exact hf.elim
      | succ n =>
      have hf' : ds.length ≤ 4000 ∧ ∀ e ∈ ds, Fit n e := hf
      have hS := hG n rfl
      subst hS
      walk_at "ev"
      intro p hp
      generalize hH : upd _ p _ = H1
      obtain ⟨sm, hp1⟩ := newO hH hp
      have hs1 := sm.seq hs
      have ht1 := sm.seq ht
      have kd : Kd K H1 (.ref a) "list" := .lst hs1
      have ty := kd.ty
      have kd' : Kd K H1 (.ref b) "list" := .lst ht1
      have ty' := kd'.ty
      obtain ⟨k1, k2, k3, k4, k5⟩ := kd.kit
      have ka := kit_lt k4 k5
      walk_at "ev"
      refine .inl ⟨hs1, ht1, fun D hD => ?_⟩
      refine lc_pairs (xs := xs) (ys := ys) (fun i H' => Hold (Same H1 H' ∧ H' D = some (.lst ((List.replicate i true).map V.bl)))) (.mk ⟨same_new hD, upd_same⟩) ?_ ?_ ?_ ?_ ?_
      · intro i H' hP hi
        obtain ⟨sm2, hD2⟩ := hP.un
        have hi2 : i < ys.length := by omega
        exact ⟨xs, ys, _, _, sm2.seq hs1, sm2.seq ht1, List.getElem?_eq_getElem hi, List.getElem?_eq_getElem hi2⟩
      · intro i H' v H'' hP hi yl
        obtain ⟨sm2, hD2⟩ := hP.un
        obtain ⟨T, x, y, e1, e2, e3, f1, f2⟩ := yl
        exact ⟨T, x, y, e1, e2, e3, f1 _ (sm2.seq hs1), f2 _ (sm2.seq ht1)⟩
      · intro H' hP
        obtain ⟨sm2, hD2⟩ := hP.un
        exact ⟨xs, ys, sm2.seq hs1, sm2.seq ht1, .inl (Nat.le_refl _)⟩
      · intro i x y T' H' H'' hx hy hP hT e
        obtain ⟨sm2, hD2⟩ := hP.un
        obtain ⟨sm3, hT3⟩ := newO e.symm hT
        have hT4 : SqT K H'' T' [x, y] := SqT.of hT3
        obtain ⟨d, hd, hdx⟩ := dpall_get ha hx
        obtain ⟨d', hd', hdy⟩ := dpall_get hb hy
        have ed : d' = d := Option.some.inj (hd'.symm.trans hd)
        subst ed
        have sm4 : Same H H'' := (sm.trans sm2).trans sm3
        have dx := dp_same sm4 hdx
        have dy := dp_same sm4 hdy
        have ft := hf'.2 _ (List.mem_of_getElem? hd)
        have hil : i < xs.length := (List.getElem?_eq_some_iff.mp hx).1
        have hdl := dpall_len ha
        have hlen : i ≤ 4000 := by omega
        walk_at "ev"
        intro H5 sm5
        have hD5 := sm5 _ _ (sm3 _ _ hD2)
        refine ⟨_, hD5, szm (by simp; omega), .mk ⟨same_mut ((sm2.trans sm3).trans sm5) hD, ?_⟩⟩
        rw [upd_same, List.replicate_succ', List.map_append]
        rfl
      · intro H' hP
        obtain ⟨sm2, hD2⟩ := hP.un
        refine ⟨D, List.replicate xs.length true, rfl, SqL.of hD2, ?_⟩
        rw [all_true]
        exact q _ (sm.trans sm2)
    | tup hs ha =>
      rename_i a xs ds
      cases hy with
      | tup ht hb =>
      rename_i b ys
      have el : ys.length = xs.length := (dpall_len hb).trans (dpall_len ha).symm
      have el' : V.int (xs.length : Int) = V.int (ys.length : Int) := by rw [el]
      cases n with
      | zero => exact hf.elim
      | succ n =>
      have hf' : ds.length ≤ 4000 ∧ ∀ e ∈ ds, Fit n e := hf
      have hS := hG n rfl
      subst hS
      walk_at "ev"
      intro p hp
      generalize hH : upd _ p _ = H1
      obtain ⟨sm, hp1⟩ := newO hH hp
      have hs1 := same_t sm hs
      have ht1 := same_t sm ht
      have kd : Kd K H1 (.ref a) "tuple" := .tup hs1
      have ty := kd.ty
      have kd' : Kd K H1 (.ref b) "tuple" := .tup ht1
      have ty' := kd'.ty
      obtain ⟨k1, k2, k3, k4, k5⟩ := kd.kit
      have ka := kit_lt k4 k5
      walk_at "ev"
      refine .inr ⟨hs1, ht1, fun D hD => ?_⟩
      refine lc_pairs (xs := xs) (ys := ys) (fun i H' => Hold (Same H1 H' ∧ H' D = some (.lst ((List.replicate i true).map V.bl)))) (.mk ⟨same_new hD, upd_same⟩) ?_ ?_ ?_ ?_ ?_
      · intro i H' hP hi
        obtain ⟨sm2, hD2⟩ := hP.un
        have hi2 : i < ys.length := by omega
        exact ⟨xs, ys, _, _, same_t sm2 hs1, same_t sm2 ht1, List.getElem?_eq_getElem hi, List.getElem?_eq_getElem hi2⟩
      · intro i H' v H'' hP hi yl
        obtain ⟨sm2, hD2⟩ := hP.un
        obtain ⟨T, x, y, e1, e2, e3, f1, f2⟩ := yl
        exact ⟨T, x, y, e1, e2, e3, f1 _ (same_t sm2 hs1), f2 _ (same_t sm2 ht1)⟩
      · intro H' hP
        obtain ⟨sm2, hD2⟩ := hP.un
        exact ⟨xs, ys, same_t sm2 hs1, same_t sm2 ht1, .inl (Nat.le_refl _)⟩
      · intro i x y T' H' H'' hx hy hP hT e
        obtain ⟨sm2, hD2⟩ := hP.un
        obtain ⟨sm3, hT3⟩ := newO e.symm hT
        have hT4 : SqT K H'' T' [x, y] := SqT.of hT3
        obtain ⟨d, hd, hdx⟩ := dpall_get ha hx
        obtain ⟨d', hd', hdy⟩ := dpall_get hb hy
        have ed : d' = d := Option.some.inj (hd'.symm.trans hd)
        subst ed
        have sm4 : Same H H'' := (sm.trans sm2).trans sm3
        have dx := dp_same sm4 hdx
        have dy := dp_same sm4 hdy
        have ft := hf'.2 _ (List.mem_of_getElem? hd)
        have hil : i < xs.length := (List.getElem?_eq_some_iff.mp hx).1
        have hdl := dpall_len ha
        have hlen : i ≤ 4000 := by omega
        walk_at "ev"
        intro H5 sm5
        have hD5 := sm5 _ _ (sm3 _ _ hD2)
        refine ⟨_, hD5, szm (by simp; omega), .mk ⟨same_mut ((sm2.trans sm3).trans sm5) hD, ?_⟩⟩
        rw [upd_same, List.replicate_succ', List.map_append]
        rfl
      · intro H' hP
        obtain ⟨sm2, hD2⟩ := hP.un
        refine ⟨D, List.replicate xs.length true, rfl, SqL.of hD2, ?_⟩
        rw [all_true]
        exact q _ (sm.trans sm2)
theorem ok_same {f : Addr} {fd : FuncData} (D__law_same : Df K mg "_law_same" s__law_same P__law_same f fd) (T : Blt mg) : ∀ n : Nat, FnOk P w K mg base CX0 (n + 1) f fd P__law_same (spSame K n)
  | 0 => same_step (spI := fun _ _ _ _ => False) D__law_same T ⟨fun _ _ _ _ h => h.elim, fun _ _ _ _ _ _ _ _ _ _ _ _ _ h => h.elim⟩ (fun m h => by omega)
  | n + 1 => same_step D__law_same T (ok_same D__law_same T n) (fun m h => by cases h; rfl)
end
/-! ### the refusals' own making -/
abbrev s_init : Stmt := inClass (top 1) 0
abbrev N_init : List Str := ["self", "what"]
theorem sc_init : FnScope N_init N_init (defScope s_init) := ⟨rfl, rfl, rfl, by decide +kernel, rfl, by decide +kernel, by decide +kernel⟩
def spInit (K : PySem.W.Frag) : Sp := fun vs H Q _ => ∃ (a C : Addr) (v : V), vs = [.ref a, v] ∧ OexC K C ∧ PySem.W.findIn K (.ref C) "what" = some none ∧ H a = some (exo a C none) ∧
  ∀ dx, H dx = none → dx ≠ a → Q .non (upd (upd H dx (exd dx [(("what" : Str), v)])) a (exo a C (some dx)))
section
variable {P : Program} {w : World} {K : PySem.W.Frag} {mg : Str → Option Value} {base : Heap}
theorem ok_init {f : Addr} {fd : FuncData} {k : Nat} (F : Fun K "__init__" "TurnError.__init__" s_init f fd) : FnOk P w K mg base CX0 (k + 1) f fd N_init (spInit K) := by
  refine F.ok sc_init (fun vs H Q E h => ?_) (fun cdv A outer s H vs Q E hr h => ?_)
  · obtain ⟨a, C, v, rfl, _⟩ := h
    rfl
  · obtain ⟨a, C, v, rfl, T, nw, ha, q⟩ := h
    refine ⟨_, pss_one (ps_ost (pv 0) (pv 1)), ?_⟩
    exact ⟨_, rfl, _, rfl, a, C, rfl, T, nw, .inl ⟨ha, q⟩⟩
end
/-- C(v), made to be raised -/
theorem mk_what {K : PySem.W.Frag} {C : Addr} {v : V} {Q : XK} {H1 : Hp} (E : ExK K C) (h : ∀ d H', H1 d = none → Same H1 H' → H' d = some (.xd [(("what" : Str), v)]) → Q (.ref C) (some d) H') : ∀ a, H1 a = none → spInit K (.ref a :: ([v] ++ [])) (upd H1 a (exo a C none))
    (fun v' H2 => v' = .non ∧ ∃ (d : Addr) (fs : List (Str × V)), H2 a = some (exo a C (some d)) ∧ H2 d = some (exd d fs) ∧ H1 d = none ∧ Q (.ref C) (some d) (upd (del H2 a) d (.xd fs))) (fun _ _ _ => False) := by
  intro a ha
  refine ⟨a, C, v, rfl, E.oex, E.nw, upd_same, fun dx hd ne => ?_⟩
  rw [upd_ne ne] at hd
  refine ⟨rfl, dx, _, upd_same, ?_, hd, h dx _ hd (fun b o e => ?_) upd_same⟩
  · rw [upd_ne ne, upd_same]
  · have n1 := ne_of_none e hd
    have n2 := ne_of_none e ha
    rw [upd_ne n1, del_ne n2, upd_ne n2, upd_ne n1, upd_ne n2]
    exact e
/-- what is told of the class of a refusal, under TurnError at CT -/
structure Ref (K : PySem.W.Frag) (CT C fI : Addr) : Prop where
  ek : ExK K C
  ini : PySem.W.findIn K (.ref C) "__init__" = some (some (.ref fI))
  em : PySem.W.exmOne K (.ref C) (.ref CT) = some true
  kv : PySem.W.kitOne K (.ref C) (.type "ValueError") = some true
  kt : PySem.W.kitOne K (.ref C) (.ref CT) = some true
/-! ### a list or a tuple -/
section
open PySem.Spec PyProof.Rows
variable {X : Cx}
def rIxQ (K : PySem.W.Frag) : R2 := fun x y H Q => ∃ p xs i v, x = .ref p ∧ y = .int i ∧ (SqL K H p xs ∨ SqT K H p xs) ∧ atI xs i = some v ∧ Q v H
theorem ix_seq : IxR X (rIxQ X.K) := by
  intro value slice pins s σ H x y v u Q I rx ry h hs
  obtain ⟨p, xs, i, z, e1, e2, hq | hq, he, q⟩ := h
  · exact ix_list value slice pins s σ H x y v u Q I rx ry ⟨p, xs, i, z, e1, e2, hq, he, q⟩ hs
  · exact ix_tup value slice pins s σ H x y v u Q I rx ry ⟨p, xs, i, z, e1, e2, hq, he, q⟩ hs
end
theorem sq_same {K : PySem.W.Frag} {H H' : Hp} {a : Addr} {xs : List V} (e : Same H H') (h : SqL K H a xs ∨ SqT K H a xs) : SqL K H' a xs ∨ SqT K H' a xs := by
  rcases h with h | h
  · exact .inl (e.seq h)
  · exact .inr (same_t e h)
/-! ### a loop over enumerate -/
theorem for_enumL {K : PySem.W.Frag} {a : Addr} {xs : List V} {g : TG} {tb : TS} {D : Ends} {σ : L2.St} {H : Hp} (Pv : Nat → L2.St → Hp → Prop) (h0 : Pv 0 σ H) (hq : ∀ i σ H, Pv i σ H → SqL K H a xs)
    (hs : ∀ (i : Nat) (x : V) (T : Addr) (σ : L2.St) (H : Hp), xs[i]? = some x → Pv i σ H → H T = none → g (.ref T) σ (upd H T (.tup [.int (i : Nat), x])) fun σ2 H2 => tb { D with nx := Pv (i + 1), ct := Pv (i + 1), bk := D.nx } σ2 H2) (hd : ∀ σ H, Pv xs.length σ H → D.nx σ H) :
    ∃ W : Nat → Nat → L2.St → Hp → Prop, (∃ m, W 0 m σ H) ∧ ∀ i m σ H, W i m σ H →
      ((Ite K a).stop i H ∧ D.nx σ H) ∨ ((Ite K a).go i H ∧ ∃ N : L2.St → Hp → Prop, (∀ σ' H', N σ' H' → ∃ m', m' < m ∧ W (i + 1) m' σ' H') ∧ ∀ v H', (Ite K a).yld i H v H' → g v σ H' fun σ2 H2 => tb { D with nx := N, ct := N, bk := D.nx } σ2 H2) := by
  refine ⟨fun i m σ H => m = xs.length - i ∧ i ≤ xs.length ∧ Pv i σ H, ⟨xs.length, rfl, Nat.zero_le _, h0⟩, ?_⟩
  rintro i m σ H ⟨rfl, hi, p⟩
  have q := hq i σ H p
  by_cases hlt : i < xs.length
  · refine .inr ⟨⟨xs, xs[i], q, List.getElem?_eq_getElem hlt⟩, Pv (i + 1), fun σ' H' p' => ⟨xs.length - (i + 1), by omega, rfl, hlt, p'⟩, fun v H' y => ?_⟩
    obtain ⟨T, x', rfl, hT, rfl, f1⟩ := y
    exact hs i x' T σ H (f1 xs q) p hT
  · have e : i = xs.length := by omega
    subst e
    exact .inl ⟨⟨xs, q, Nat.le_refl _⟩, hd σ H p⟩
/-! ### enumerate of a tuple -/
section
open PySem.Spec PyProof.Rows
abbrev tIt (t : Addr) : Obj := { cls := .type "tuple_iterator", data := .fields #[.ref t, .int 0 0] }
abbrev tEn (i : Addr) : Obj := { cls := .type "enumerate", data := .fields #[.none, .bool false, .ref i, rawInt 0, .none, .none] }
theorem meets_enumT (l : Addr) (items : Array Value) (n : Nat) (dct : Option Addr) (sl : Array (Option Value)) :
    Meets (Builtin.«enumerate.__new__» ⟨[.type "enumerate", .ref l], []⟩) (fun _ R s => s.heap.get? l = some { cls := .type "tuple", dict := dct, data := .seq items n, slots := sl } ∧
      R (.ok (.ret (.ref (s.heap.push (tIt l)).objs.size))) { s with heap := (s.heap.push (tIt l)).push (tEn s.heap.objs.size) }) :=
  .of_wp fun prog w A R s h => by
    obtain ⟨hp, g, d, tk, os⟩ := s
    obtain ⟨hl, h⟩ := h
    have hsub := sub_enumerate
    have hT : Heap.IsTuple (Shared.heap ⟨hp, g, d, tk, os⟩) l items := ⟨_, hl, rfl, n, rfl⟩
    have q1 : ∀ {A' : Around} {E : Value → Shared → Prop} {Q : Value → Shared → Prop}, Q (.ref hp.objs.size) ⟨hp.push (tIt l), g, d, tk, os⟩ → wpAny (model prog w) A' (pyIter (.ref l)) Q E ⟨hp, g, d, tk, os⟩ := fun q => wpAny_pyIter_tuple hT q
    wp_walk using AutoSeq1.wpAny_loadPart' hl
    refine wpAny_stack_any fun st => wpAny_pure ?_
    split
    · rename_i c _ _ _ _ _
      cases (c == Value.type "enumerate")
      · wp_walk using AutoSeq1.wpAny_loadPart' hl, q1
        exact ⟨_, rfl, h⟩
      · wp_walk using AutoSeq1.wpAny_loadPart' hl, q1
        exact ⟨_, rfl, h⟩
    · wp_walk using AutoSeq1.wpAny_loadPart' hl, q1
      exact ⟨_, rfl, h⟩
theorem call_enumT {prog : Program} {w : World} {A : Around} {E : Value → Shared → Prop} {s : Shared} {l : Addr} {items : Array Value} {Q : Value → Shared → Prop} (hL : s.heap.IsTuple l items)
    (h : ∀ h', IsEnum h' (s.heap.objs.size + 1) s.heap.objs.size 0 .none → h'.IsTupleIter s.heap.objs.size l 0 → (∀ b o, s.heap.get? b = some o → h'.get? b = some o) → Q (.ref (s.heap.objs.size + 1)) { s with heap := h' }) :
    wpAny (model prog w) A (call (.type "enumerate") [.ref l]) Q E s := by
  obtain ⟨⟨c, dct, dt, sl⟩, hl, hc, n, hd⟩ := hL
  replace hc : c = .type "tuple" := hc
  replace hd : dt = .seq items n := hd
  subst hc hd
  refine callType_new F.called_enumerate (by decide) (F.typeCall_enumerate_1 _) (F.newCall_enumerate_1 _) (fun obj => F.args_object_init_2 obj _) F.entry_enumerate_new (meets_enumT l items n dct sl) ⟨hl, ?_⟩
  have hz : (s.heap.push (tIt l)).objs.size = s.heap.objs.size + 1 := Heap.size_push ..
  show _ ∧ _
  rw [hz]
  have he : IsEnum ((s.heap.push (tIt l)).push (tEn s.heap.objs.size)) (s.heap.objs.size + 1) s.heap.objs.size 0 .none := by
    have k := Heap.get?_push_size (s.heap.push (tIt l)) (o := tEn s.heap.objs.size) rfl
    rw [hz] at k
    exact k
  exact ⟨⟨_, he, rfl⟩, h _ he ⟨_, Heap.get?_push_of_some _ (Heap.get?_push_size _ rfl), rfl, rfl⟩ fun b o x => Heap.get?_push_of_some _ (Heap.get?_push_of_some _ x)⟩
/-- the tuple at a, each item in a new pair -/
def IteT (K : PySem.W.Frag) (a : Addr) : It :=
  ⟨fun i H => ∃ (xs : List V) (x : V), SqT K H a xs ∧ xs[i]? = some x, fun i H v H' => ∃ T x, v = .ref T ∧ H T = none ∧ H' = upd H T (.tup [.int (i : Nat), x]) ∧ ∀ xs, SqT K H a xs → xs[i]? = some x, fun i H => ∃ xs : List V, SqT K H a xs ∧ xs.length = i⟩
theorem turn_enumT {P : Program} {w : World} {K : PySem.W.Frag} {elts : List Expr} {kk : Nat} {tpos : Pos} (a e it : Addr) :
    Turn P w K (.Tuple elts kk tpos) (IteT K a) [e, it] e (fun i h => (∃ old, IsEnum h e it ((i : Nat) : Int) old) ∧ h.IsTupleIter it a i ∧ e ≠ it ∧ a ≠ it ∧ a ≠ e) where
  mem := by simp
  obj := fun i h st b hb => by
    obtain ⟨⟨old, he⟩, ⟨o, ho, hc, hd⟩, _⟩ := st
    have z : b = e ∨ b = it := by simpa using hb
    rcases z with z | z
    · rw [z]
      exact ⟨_, he, fun v q => nomatch q⟩
    · rw [z]
      exact ⟨o, ho, fun v q => by rw [hd] at q; cases q⟩
  keep := fun i h h' st k => by
    obtain ⟨⟨old, he⟩, hi, hne⟩ := st
    exact ⟨⟨old, k e (by simp) _ he⟩, hi.at fun o q => k it (by simp) o q, hne⟩
  item := by
    intro X hP hw hK hc i pins s σ H E I hf st hg
    subst hP hw hK
    obtain ⟨⟨old, he⟩, hit, hne, hna, hnb⟩ := st
    obtain ⟨xs, x, hq, hx⟩ := hg
    obtain ⟨its, rv, p, hz⟩ := I.tuple hq
    obtain ⟨u, hu, ru⟩ := rv.get hx
    have hel : e < s.heap.objs.size := Heap.lt_size he
    have hil : it < s.heap.objs.size := by
      obtain ⟨_, q, _⟩ := hit
      exact Heap.lt_size q
    have hlt : i < its.toArray.size := by
      rw [List.size_toArray]
      exact (List.getElem?_eq_some_iff.mp hu).1
    have dr : Draws X.prog X.w X.A.in1 it [it, a] its.toArray.size (fun i v => its.toArray[i]? = some v) (fun i h => h.IsTupleIter it a i ∧ h.IsTuple a its.toArray) := Draws.tuple (A := X.A.in1) (I.ok.hd hc) it a hna its.toArray
    refine wpAny_pyNext_enum_itemD dr he ⟨hit, p⟩ hlt hne (by simp [hne, hnb.symm]) fun y h' tk hy ho hst hT hsz hk => ?_
    have ey : y = u := by
      have h1 : its.toArray[i]? = some u := by simpa using hu
      rw [h1] at hy
      exact (Option.some.inj hy).symm
    subst ey
    refine ⟨_, rfl, wpAny_letOwnedTupleGo_enum (s := { s with heap := h', toks := tk + 1 }) ho fun h'' he' sb => ?_⟩
    have hT2 := (sb.2 _ (Nat.ne_of_gt hel)).trans hT
    have new : ObjOk X.prog X.w (upd H s.heap.objs.size (.tup [.int (i : Nat), x])) h'' s.heap.objs.size (.tup [.int (i : Nat), x]) := ⟨by show 2 ≤ sizeLine; decide, [.int i tk, y], .cons ⟨_, rfl⟩ (.cons ru .nil), ⟨_, hT2, rfl, _, rfl⟩⟩
    have I1 : Inv X pins σ (upd H s.heap.objs.size (.tup [.int (i : Nat), x])) { s with heap := h'', toks := tk + 1 } :=
      I.turnedNew (ch := [e, it]) (fun b ob hb q => (sb.2 b (fun z => hb (by simp [z]))).trans (hk b ob (fun z => hb (by simp [z])) (fun z => hb (by simp [z])) q)) hf (Nat.le_refl _) new
    refine ⟨.ref s.heap.objs.size, _, I1, rfl, ⟨_, x, rfl, I.hok.fresh (Nat.le_refl _), rfl, fun ys hy => by rw [I.tuple_inj hy hq]; exact hx⟩, ⟨⟨y, ?_⟩, hst.1.at fun o q => (sb.2 it hne.symm).trans q, hne, hna, hnb⟩, fun b hb => ?_⟩
    · rw [show ((i + 1 : Nat) : Int) = (i : Int) + 1 by omega]
      exact he'
    · have hb' : b < s.heap.objs.size := by
        have z : b = e ∨ b = it := by simpa using hb
        rcases z with z | z <;> rw [z]
        · exact hel
        · exact hil
      rw [upd_ne (Nat.ne_of_lt hb')]
      exact (hf b hb).1
  done := by
    intro X hP hw hK hc i pins s σ H E I hf st hg
    subst hP hw hK
    obtain ⟨⟨old, he⟩, hit, hne, hna, hnb⟩ := st
    obtain ⟨xs, hq, hx⟩ := hg
    obtain ⟨its, rv, p, hz⟩ := I.tuple hq
    obtain ⟨f0, f1, f2, f3, f4, f5⟩ := hf it (by simp)
    have hl : its.toArray.size = i := by
      rw [List.size_toArray, ← rv.length]
      exact hx
    have dr : Draws X.prog X.w X.A.in1 it [it, a] its.toArray.size (fun i v => its.toArray[i]? = some v) (fun i h => h.IsTupleIter it a i ∧ h.IsTuple a its.toArray) := Draws.tuple (A := X.A.in1) (I.ok.hd hc) it a hna its.toArray
    exact wpAny_pyNext_enum_endD dr he (by rw [hl]; exact ⟨hit, p⟩) fun h' eb => ⟨rfl, I.turned (t' := s.toks) (fun b o hb q => eb b o hb q) f0 f1 f3 f4 f5⟩
  self := fun A i s Q E st h => by
    obtain ⟨⟨_, he⟩, _⟩ := st
    exact wpAny_pyIter_enum he h
def iEnumT (K : PySem.W.Frag) (ta : TA) : TI := fun σ H R => ta σ H fun vs H1 => ∃ a xs, vs = [.ref a] ∧ SqT K H1 a xs ∧ R (IteT K a) H1
theorem pi_enumT {X : Cx} {e : Expr} {ta : TA} {p pos tpos : Pos} {elts : List Expr} {kk : Nat} (hg : Gl X "enumerate") (hm : X.mg "enumerate" = none) (ha : PA X [e] ta) (hs : starEach [e] X.env = [(false, eval e X.env)] := by rfl) :
    PI X (.Tuple elts kk tpos) (.Call (.Name "enumerate" p) [e] [] pos) (iEnumT X.K ta) := by
  refine ⟨fun pins s σ H R I h => ?_⟩
  refine Call_ (ld_blt I hg hm boot_enumerate (PyProof.Rows.callWith_type1 (thn (ha.run pos pins s σ H _ I h) fun us s1 ⟨vs, H1, I1, r1, q1⟩ => ?_) hs rfl))
  obtain ⟨a, xs, ex, hq, q⟩ := q1
  subst ex
  obtain ⟨u, rfl, ru⟩ := r1.one
  cases ru
  obtain ⟨its, rv, p', hz⟩ := I1.tuple hq
  have hal : a < s1.heap.objs.size := by
    obtain ⟨o, ho, _⟩ := p'
    exact Heap.lt_size ho
  refine call_enumT p' fun h' he hit hk => wpAny_pyIter_enum he ?_
  have I2 : Inv X pins σ H1 { s1 with heap := h' } := I1.kept (t' := s1.toks) hk
  refine ⟨s1.heap.objs.size + 1, [s1.heap.objs.size + 1, s1.heap.objs.size], _, _, H1, rfl, I2, turn_enumT a (s1.heap.objs.size + 1) s1.heap.objs.size, ⟨⟨.none, he⟩, hit, Nat.succ_ne_self _, Nat.ne_of_lt hal, Nat.ne_of_lt (Nat.lt_succ_of_lt hal)⟩, fun b hb => ?_, q⟩
  have hle : s1.heap.objs.size ≤ b := by
    have z : b = s1.heap.objs.size + 1 ∨ b = s1.heap.objs.size := by simpa using hb
    rcases z with z | z <;> rw [z]
    · exact Nat.le_add_right _ _
    · exact Nat.le_refl _
  exact I1.fpOk hle (I1.hok.fresh hle)
end
theorem for_enumT {K : PySem.W.Frag} {a : Addr} {xs : List V} {g : TG} {tb : TS} {D : Ends} {σ : L2.St} {H : Hp} (Pv : Nat → L2.St → Hp → Prop) (h0 : Pv 0 σ H) (hq : ∀ i σ H, Pv i σ H → SqT K H a xs)
    (hs : ∀ (i : Nat) (x : V) (T : Addr) (σ : L2.St) (H : Hp), xs[i]? = some x → Pv i σ H → H T = none → g (.ref T) σ (upd H T (.tup [.int (i : Nat), x])) fun σ2 H2 => tb { D with nx := Pv (i + 1), ct := Pv (i + 1), bk := D.nx } σ2 H2) (hd : ∀ σ H, Pv xs.length σ H → D.nx σ H) :
    ∃ W : Nat → Nat → L2.St → Hp → Prop, (∃ m, W 0 m σ H) ∧ ∀ i m σ H, W i m σ H →
      ((IteT K a).stop i H ∧ D.nx σ H) ∨ ((IteT K a).go i H ∧ ∃ N : L2.St → Hp → Prop, (∀ σ' H', N σ' H' → ∃ m', m' < m ∧ W (i + 1) m' σ' H') ∧ ∀ v H', (IteT K a).yld i H v H' → g v σ H' fun σ2 H2 => tb { D with nx := N, ct := N, bk := D.nx } σ2 H2) := by
  refine ⟨fun i m σ H => m = xs.length - i ∧ i ≤ xs.length ∧ Pv i σ H, ⟨xs.length, rfl, Nat.zero_le _, h0⟩, ?_⟩
  rintro i m σ H ⟨rfl, hi, p⟩
  have q := hq i σ H p
  by_cases hlt : i < xs.length
  · refine .inr ⟨⟨xs, xs[i], q, List.getElem?_eq_getElem hlt⟩, Pv (i + 1), fun σ' H' p' => ⟨xs.length - (i + 1), by omega, rfl, hlt, p'⟩, fun v H' y => ?_⟩
    obtain ⟨T, x', rfl, hT, rfl, f1⟩ := y
    exact hs i x' T σ H (f1 xs q) p hT
  · have e : i = xs.length := by omega
    subst e
    exact .inl ⟨⟨xs, q, rfl⟩, hd σ H p⟩
/-! ### orders -/
abbrev vN (n : Nat) : V := .int (n : Int)
def IsP (t : List Nat) : Prop := t.Nodup ∧ ∀ x ∈ t, x < t.length
theorem pigeon : ∀ (n : Nat) (l : List Nat), l.Nodup → (∀ x ∈ l, x < n) → l.length ≤ n
  | 0, l, _, h => by
    cases l with
    | nil => exact Nat.le_refl _
    | cons a r => exact absurd (h a List.mem_cons_self) (Nat.not_lt_zero a)
  | n + 1, l, d, h => by
    by_cases c : n ∈ l
    · have h1 := pigeon n (l.erase n) (d.erase n) fun x hx => by
        have h2 := h x (List.mem_of_mem_erase hx)
        have h3 : x ≠ n := fun z => by
          subst z
          exact (d.not_mem_erase) hx
        omega
      rw [List.length_erase_of_mem c] at h1
      omega
    · have h1 := pigeon n l d fun x hx => by
        have h2 := h x hx
        have h3 : x ≠ n := fun z => by
          subst z
          exact c hx
        omega
      omega
theorem IsP.sur {t : List Nat} (h : IsP t) {y : Nat} (hy : y < t.length) : y ∈ t := by
  apply Classical.byContradiction
  intro c
  have h1 := pigeon t.length (y :: t) (List.nodup_cons.mpr ⟨c, h.1⟩) fun x hx => by
    rcases List.mem_cons.mp hx with z | z
    · rw [z]
      exact hy
    · exact h.2 x z
  rw [List.length_cons] at h1
  omega
theorem IsP.of_perm {t : List Nat} {n : Nat} (h : t.Perm (List.range n)) : IsP t ∧ t.length = n := by
  have hl : t.length = n := h.length_eq.trans List.length_range
  refine ⟨⟨h.nodup_iff.mpr List.nodup_range, fun x hx => ?_⟩, hl⟩
  rw [hl]
  exact List.mem_range.mp (h.mem_iff.mp hx)
theorem IsP.inj {t : List Nat} (h : IsP t) {i j x : Nat} (hi : t[i]? = some x) (hj : t[j]? = some x) : i = j := by
  obtain ⟨hi1, hi2⟩ := List.getElem?_eq_some_iff.mp hi
  obtain ⟨hj1, hj2⟩ := List.getElem?_eq_some_iff.mp hj
  exact (List.getElem_inj h.1).mp (hi2.trans hj2.symm)
/-- u tells where each one stands in t -/
def InvOf (t u : List Nat) : Prop := u.length = t.length ∧ ∀ (i x : Nat), t[i]? = some x → u[x]? = some i
/-- ys is xs put in the order t -/
def PutOf (t : List Nat) (xs ys : List V) : Prop := ys.length = t.length ∧ ∀ (i x : Nat), t[i]? = some x → ys[x]? = xs[i]?
theorem PutOf.uniq {t : List Nat} {xs ys zs : List V} (h : IsP t) (a : PutOf t xs ys) (b : PutOf t xs zs) : ys = zs := by
  refine List.ext_getElem? fun k => ?_
  by_cases c : k < t.length
  · obtain ⟨i, hi⟩ := List.mem_iff_getElem?.mp (h.sur c)
    rw [a.2 i k hi, b.2 i k hi]
  · rw [List.getElem?_eq_none (by rw [a.1]; omega), List.getElem?_eq_none (by rw [b.1]; omega)]
theorem InvOf.isP {t u : List Nat} (h : IsP t) (a : InvOf t u) : IsP u := by
  have key : ∀ k < t.length, ∃ i, t[i]? = some k ∧ u[k]? = some i := fun k hk => by
    obtain ⟨i, hi⟩ := List.mem_iff_getElem?.mp (h.sur hk)
    exact ⟨i, hi, a.2 i k hi⟩
  refine ⟨?_, fun x hx => ?_⟩
  · refine List.pairwise_iff_getElem.mpr fun i j hi hj hij e => ?_
    have hi' : i < t.length := by
      rw [← a.1]
      exact hi
    have hj' : j < t.length := by
      rw [← a.1]
      exact hj
    obtain ⟨p, hp, hp2⟩ := key i hi'
    obtain ⟨q, hq, hq2⟩ := key j hj'
    rw [List.getElem?_eq_getElem hi] at hp2
    rw [List.getElem?_eq_getElem hj] at hq2
    have ep : p = q := by
      rw [← Option.some.inj hp2, ← Option.some.inj hq2]
      exact e
    subst ep
    rw [hp] at hq
    cases hq
    omega
  · obtain ⟨k, hk⟩ := List.mem_iff_getElem?.mp hx
    have hkl : k < u.length := (List.getElem?_eq_some_iff.mp hk).1
    rw [a.1] at hkl
    obtain ⟨i, hi, hi2⟩ := key k hkl
    rw [hk] at hi2
    cases hi2
    rw [a.1]
    exact (List.getElem?_eq_some_iff.mp hi).1
/-- what is told of the refusals' own making -/
structure XI (K : PySem.W.Frag) (fI : Addr) (fdI : FuncData) : Prop where
  F : Fun K "__init__" "TurnError.__init__" s_init fI fdI
  b : Binds K fdI N_init []
  ty : PySem.W.typeIn K (.ref fI) = some (.type "function")
def Wh (H H' : Hp) (d : Addr) (v : V) : Prop := H d = none ∧ Same H H' ∧ H' d = some (.xd [(("what" : Str), v)])
theorem rep_flat {n : Nat} {v : V} : (List.replicate n [v]).flatten = List.replicate n v := by
  induction n with
  | zero => rfl
  | succ n ih =>
    rw [List.replicate_succ, List.flatten_cons, ih]
    rfl
theorem ixn_of {n j : Nat} {i : Int} (h : j < n) (e : i = (j : Int)) : ixN n i = some j := by
  subst e
  unfold ixN
  simp [h]
abbrev s_inverse_order : Stmt := top 6
abbrev N_inverse_order : List Str := ["order", "told", "at", "place"]
abbrev P_inverse_order : List Str := ["order"]
theorem sc_inverse_order : FnScope N_inverse_order P_inverse_order (defScope s_inverse_order) := ⟨rfl, rfl, rfl, by decide +kernel, rfl, by decide +kernel, by decide +kernel⟩
section
variable {P : Program} {w : World} {K : PySem.W.Frag} {mg : Str → Option Value} {base : Heap}
def spInvOL (K : PySem.W.Frag) : Sp := fun vs H Q _ => ∃ (a : Addr) (t : List Nat), vs = [.ref a] ∧ SqL K H a (t.map vN) ∧ IsP t ∧ t.length ≤ 1000 ∧ ∀ p u H', InvOf t u → H p = none → Same H H' → H' p = some (.lst (u.map vN)) → Q (.ref p) H'
theorem ok_invOL {f : Addr} {fd : FuncData} {k : Nat} (F : Fun K "inverse_order" "inverse_order" s_inverse_order f fd) (T : Blt mg) : FnOk P w K mg base CX0 (k + 1) f fd P_inverse_order (spInvOL K) := by
  have nd := sc_inverse_order.nd
  refine F.ok sc_inverse_order (fun vs H Q E h => ?_) (fun cdv A outer s H vs Q E hr h => ?_)
  · obtain ⟨a, t, rfl, _⟩ := h
    rfl
  · obtain ⟨a, t, rfl, ha, ht, hlen, q⟩ := h
    refine ⟨_, (pss_cons (ps_set (i := 1) nd rfl (Or.inl rfl) (pe_op op_rep (pe_lst (pa_cons (pe_int) pa_nil)) (pe_callB (r := rLenQ K) call_len_seq (by rfl) T.b_len (by decide +kernel) (pa_cons (pv 0) pa_nil))))
      (pss_cons (ps_for PassesOwn.never rfl (pi_enum (by rfl) T.b_enumerate (pa_cons (pv 0) pa_nil)) (pg_tup (by rfl) (pgs_cons (pg_name (i := 2) nd rfl (Or.inl rfl)) (pgs_cons (pg_name (i := 3) nd rfl (Or.inl rfl)) pgs_nil)))
      (pss_one (ps_asg (pv 2) (pg_sub (pv 1) (pv 3) set_list))))
      (pss_one (ps_ret (pv 1))))), ?_⟩
    have z1 : ([V.int 0] : List V).length * ((t.map vN).length : Int).toNat ≤ sizeLine := szl (by rw [List.length_map]; show 1 * _ ≤ 60000; omega)
    have z2 : ((t.map vN).length : Int) < 2 ^ 63 := by rw [List.length_map]; omega
    walk_at "ev"
    w_cond _1
    have ha1 := Same.seq sm1 ha
    walk_at "ev"
    w_cond _2
    have ha2 := Same.seq sm2 ha1
    have f2 : H l2 = none := sm1.free hl2
    have hq2' : H2 l2 = some (.lst ((List.replicate t.length 0).map vN)) := by
      rw [hq2, rep_flat, List.map_replicate, List.length_map]
      rfl
    walk_at "ev"
    refine for_enumL (K := K) (a := a) (xs := t.map vN) (fun i σ H' => Hold (∃ (u : List Nat) (s2 s3 : Option V), σ = [some (.ref a), some (.ref l2), s2, s3] ∧ Same H H' ∧ H' l2 = some (.lst (u.map vN)) ∧ u.length = t.length ∧ ∀ (j x : Nat), j < i → t[j]? = some x → u[x]? = some j)) (.mk ⟨_, none, none, rfl, sm1.trans sm2, hq2', by simp, fun j x hj => absurd hj (Nat.not_lt_zero j)⟩) ?_ ?_ ?_
    · intro i σ H3 hP
      obtain ⟨u, s2, s3, rfl, sm3, hq3, hul, hu⟩ := hP.un
      exact Same.seq sm3 ha
    · intro i v T' σ H3 hv hP hT
      obtain ⟨u, s2, s3, rfl, sm3, hq3, hul, hu⟩ := hP.un
      rw [List.getElem?_map] at hv
      obtain ⟨x, hx, ev⟩ := Option.map_eq_some_iff.mp hv
      subst ev
      have hxl := ht.2 x (List.mem_of_getElem? hx)
      generalize hG : upd _ T' _ = H4
      obtain ⟨sm4, hq4⟩ := newO hG hT
      clear hG
      have hT4 : SqT K H4 T' [.int (i : Nat), .int (x : Nat)] := SqT.of hq4
      have h34 := sm4 _ _ hq3
      have hix : ixN (u.map vN).length (x : Nat) = some x := ixn_of (by rw [List.length_map]; omega) rfl
      walk_at "ev"
      refine .mk ⟨u.set x i, _, _, rfl, same_mut (sm3.trans sm4) f2, ?_, by rw [List.length_set]; exact hul, fun j y hj hy => ?_⟩
      · rw [upd_same, List.map_set]
      · by_cases c : j = i
        · subst c
          rw [hx] at hy
          cases hy
          rw [List.getElem?_set_self (by omega)]
        · have nxy : x ≠ y := fun z => by
            subst z
            exact c (ht.inj hy hx)
          rw [List.getElem?_set_ne nxy]
          exact hu j y (by omega) hy
    · intro σ H3 hP
      obtain ⟨u, s2, s3, rfl, sm3, hq3, hul, hu⟩ := hP.un
      walk_at "ev"
      refine q l2 u H3 ⟨hul, fun j x hj => hu j x ?_ hj⟩ f2 sm3 hq3
      rw [List.length_map]
      exact (List.getElem?_eq_some_iff.mp hj).1
end
section
variable {P : Program} {w : World} {K : PySem.W.Frag} {mg : Str → Option Value} {base : Heap}
def spInvOT (K : PySem.W.Frag) : Sp := fun vs H Q _ => ∃ (a : Addr) (t : List Nat), vs = [.ref a] ∧ SqT K H a (t.map vN) ∧ IsP t ∧ t.length ≤ 1000 ∧ ∀ p u H', InvOf t u → H p = none → Same H H' → H' p = some (.lst (u.map vN)) → Q (.ref p) H'
theorem ok_invOT {f : Addr} {fd : FuncData} {k : Nat} (F : Fun K "inverse_order" "inverse_order" s_inverse_order f fd) (T : Blt mg) : FnOk P w K mg base CX0 (k + 1) f fd P_inverse_order (spInvOT K) := by
  have nd := sc_inverse_order.nd
  refine F.ok sc_inverse_order (fun vs H Q E h => ?_) (fun cdv A outer s H vs Q E hr h => ?_)
  · obtain ⟨a, t, rfl, _⟩ := h
    rfl
  · obtain ⟨a, t, rfl, ha, ht, hlen, q⟩ := h
    refine ⟨_, (pss_cons (ps_set (i := 1) nd rfl (Or.inl rfl) (pe_op op_rep (pe_lst (pa_cons (pe_int) pa_nil)) (pe_callB (r := rLenQ K) call_len_seq (by rfl) T.b_len (by decide +kernel) (pa_cons (pv 0) pa_nil))))
      (pss_cons (ps_for PassesOwn.never rfl (pi_enumT (by rfl) T.b_enumerate (pa_cons (pv 0) pa_nil)) (pg_tup (by rfl) (pgs_cons (pg_name (i := 2) nd rfl (Or.inl rfl)) (pgs_cons (pg_name (i := 3) nd rfl (Or.inl rfl)) pgs_nil)))
      (pss_one (ps_asg (pv 2) (pg_sub (pv 1) (pv 3) set_list))))
      (pss_one (ps_ret (pv 1))))), ?_⟩
    have z1 : ([V.int 0] : List V).length * ((t.map vN).length : Int).toNat ≤ sizeLine := szl (by rw [List.length_map]; show 1 * _ ≤ 60000; omega)
    have z2 : ((t.map vN).length : Int) < 2 ^ 63 := by rw [List.length_map]; omega
    walk_at "ev"
    w_cond _1
    have ha1 := same_t sm1 ha
    walk_at "ev"
    w_cond _2
    have ha2 := same_t sm2 ha1
    have f2 : H l2 = none := sm1.free hl2
    have hq2' : H2 l2 = some (.lst ((List.replicate t.length 0).map vN)) := by
      rw [hq2, rep_flat, List.map_replicate, List.length_map]
      rfl
    walk_at "ev"
    refine for_enumT (K := K) (a := a) (xs := t.map vN) (fun i σ H' => Hold (∃ (u : List Nat) (s2 s3 : Option V), σ = [some (.ref a), some (.ref l2), s2, s3] ∧ Same H H' ∧ H' l2 = some (.lst (u.map vN)) ∧ u.length = t.length ∧ ∀ (j x : Nat), j < i → t[j]? = some x → u[x]? = some j)) (.mk ⟨_, none, none, rfl, sm1.trans sm2, hq2', by simp, fun j x hj => absurd hj (Nat.not_lt_zero j)⟩) ?_ ?_ ?_
    · intro i σ H3 hP
      obtain ⟨u, s2, s3, rfl, sm3, hq3, hul, hu⟩ := hP.un
      exact same_t sm3 ha
    · intro i v T' σ H3 hv hP hT
      obtain ⟨u, s2, s3, rfl, sm3, hq3, hul, hu⟩ := hP.un
      rw [List.getElem?_map] at hv
      obtain ⟨x, hx, ev⟩ := Option.map_eq_some_iff.mp hv
      subst ev
      have hxl := ht.2 x (List.mem_of_getElem? hx)
      generalize hG : upd _ T' _ = H4
      obtain ⟨sm4, hq4⟩ := newO hG hT
      clear hG
      have hT4 : SqT K H4 T' [.int (i : Nat), .int (x : Nat)] := SqT.of hq4
      have h34 := sm4 _ _ hq3
      have hix : ixN (u.map vN).length (x : Nat) = some x := ixn_of (by rw [List.length_map]; omega) rfl
      walk_at "ev"
      refine .mk ⟨u.set x i, _, _, rfl, same_mut (sm3.trans sm4) f2, ?_, by rw [List.length_set]; exact hul, fun j y hj hy => ?_⟩
      · rw [upd_same, List.map_set]
      · by_cases c : j = i
        · subst c
          rw [hx] at hy
          cases hy
          rw [List.getElem?_set_self (by omega)]
        · have nxy : x ≠ y := fun z => by
            subst z
            exact c (ht.inj hy hx)
          rw [List.getElem?_set_ne nxy]
          exact hu j y (by omega) hy
    · intro σ H3 hP
      obtain ⟨u, s2, s3, rfl, sm3, hq3, hul, hu⟩ := hP.un
      walk_at "ev"
      refine q l2 u H3 ⟨hul, fun j x hj => hu j x ?_ hj⟩ f2 sm3 hq3
      rw [List.length_map]
      exact (List.getElem?_eq_some_iff.mp hj).1
end
abbrev s_put_in_order : Stmt := top 7
abbrev N_put_in_order : List Str := ["row", "order", "at"]
abbrev P_put_in_order : List Str := ["row", "order"]
theorem sc_put_in_order : FnScope N_put_in_order P_put_in_order (defScope s_put_in_order) := ⟨rfl, rfl, rfl, by decide +kernel, rfl, by decide +kernel, by decide +kernel⟩
section
variable {P : Program} {w : World} {K : PySem.W.Frag} {mg : Str → Option Value} {base : Heap}
def spPutL (K : PySem.W.Frag) (C : Addr) : Sp := fun vs H Q E => ∃ (r a : Addr) (xs : List V) (t : List Nat), vs = [.ref r, .ref a] ∧ SqL K H r xs ∧ SqL K H a (t.map vN) ∧ IsP t ∧ t.length ≤ 1000 ∧
  (xs.length = t.length → ∀ p ys H', PutOf t xs ys → H p = none → Same H H' → H' p = some (.lst ys) → Q (.ref p) H') ∧ (xs.length ≠ t.length → ∀ d H', Wh H H' d (.int xs.length) → E (.ref C) (some d) H')
theorem ok_putL {f f1 fI C CT : Addr} {fd d1 fdI : FuncData} {k : Nat} (F : Fun K "put_in_order" "put_in_order" s_put_in_order f fd) (T : Blt mg) (D_inverse_order : Df K mg "inverse_order" s_inverse_order P_inverse_order f1 d1) (x : XI K fI fdI) (R : Ref K CT C fI) (M_BadLength : mg "BadLength" = some (.ref C)) : FnOk P w K mg base (L2.CX P w) (k + 3) f fd P_put_in_order (spPutL K C) := by
  have G_init : FnOk P w K mg base CX0 1 fI fdI N_init (spInit K) := ok_init x.F
  have G_inverse_order : FnOk P w K mg base CX0 1 f1 d1 P_inverse_order (spInvOL K) := ok_invOL D_inverse_order.F T
  have I_ty := x.ty
  have I_b := x.b
  have EK_BadLength := R.ek
  have II_BadLength := R.ini
  have nd := sc_put_in_order.nd
  refine F.okX sc_put_in_order (fun vs H Q E h => ?_) (fun cdv A outer s H vs Q E hr h => ?_)
  · obtain ⟨r, a, xs, t, rfl, _⟩ := h
    rfl
  · obtain ⟨r, a, xs, t, rfl, hr', ha, ht, hlen, qy, qn⟩ := h
    refine ⟨_, (pss_cons (ps_if (pt_cmpR op_ne (pe_callB (r := rLenQ K) call_len_seq (by rfl) T.b_len (by decide +kernel) (pa_cons (pv 0) pa_nil)) (pe_callB (r := rLenQ K) call_len_seq (by rfl) T.b_len (by decide +kernel) (pa_cons (pv 1) pa_nil)) (nomark _)) (pss_one (ps_raise rfl (takes_of rfl rfl rfl rfl) (pmk_oex EK_BadLength.oex II_BadLength I_ty G_init (hr.mono (by omega)) I_b .nil pass0 (by rfl) M_BadLength (pa_cons (pe_callB (r := rLenQ K) call_len_seq (by rfl) T.b_len (by decide +kernel) (pa_cons (pv 0) pa_nil)) pa_nil)))) pss_nil)
      (pss_one (ps_ret (pe_lc (own := [("at", 2)]) (g := gName 2) (by rfl) nd (pi_list (pe_call G_inverse_order (hr.mono (by omega)) (by rfl) D_inverse_order.g D_inverse_order.F.kp D_inverse_order.b .nil pass0 (pa_cons (pv 1) pa_nil))) (blkOk_by (own := [("at", 2)]) (N := N_put_in_order) (sc := defScope s_put_in_order) (by decide +kernel)) (fun _ _ _ _ _ => (pg_name (i := 2) nd rfl (Or.inl rfl))) (fun _ _ _ _ _ => pts_nil) (fun _ _ _ _ _ => (pe_ix (r := rIxL K) ix_list (pv 0) (pv 2) (fun _ _ => rfl))))))), ?_⟩
    walk_at "ev"
    by_cases c : xs.length = t.length
    · refine iteFe (by simp [c]) ?_
      walk_at "ev"
      intro p u H1 hu hp sm1 hq1
      have hL1 := SqL.of (K := K) hq1
      have hr1 := Same.seq sm1 hr'
      have hup := hu.isP ht
      refine ⟨p, rfl, ⟨_, hL1⟩, fun D hD => ?_⟩
      refine lc_list (K := K) (a := p) (xs := u.map vN) (fun j H' => Hold (Same H1 H' ∧ H' D = some (.lst ((u.take j).map fun i => xs.getD i .non)))) (.mk ⟨same_new hD, upd_same⟩) ?_ ?_ ?_
      · intro j H2 hj hP
        obtain ⟨sm2, hD2⟩ := hP.un
        exact sm2.seq hL1
      · intro j v H2 hv hP
        obtain ⟨sm2, hD2⟩ := hP.un
        rw [List.getElem?_map] at hv
        obtain ⟨i, hi, ev⟩ := Option.map_eq_some_iff.mp hv
        subst ev
        have hjl : j < u.length := (List.getElem?_eq_some_iff.mp hi).1
        have hil := hup.2 i (List.mem_of_getElem? hi)
        rw [hu.1] at hil hjl
        have hr2 := Same.seq sm2 hr1
        have hat : atI xs (i : Nat) = some (xs.getD i .non) := by
          refine at_of (j := i) rfl ?_
          rw [List.getD_eq_getElem?_getD, List.getElem?_eq_getElem (by omega)]
          rfl
        have hsz : ((u.take j).map fun i => xs.getD i .non).length < sizeLine := szm (by rw [List.length_map, List.length_take]; omega)
        walk_at "ev"
        refine .mk ⟨same_mut sm2 hD, ?_⟩
        rw [upd_same, List.take_add_one, hi, List.map_append]
        rfl
      intro H2 hP
      obtain ⟨sm2, hD2⟩ := hP.un
      rw [List.length_map, List.take_length] at hD2
      refine qy c D _ H2 ⟨by rw [List.length_map]; exact hu.1, fun i x hi => ?_⟩ (sm1.free hD) (sm1.trans sm2) hD2
      have hil : i < t.length := (List.getElem?_eq_some_iff.mp hi).1
      rw [List.getElem?_map, hu.2 i x hi]
      show some (xs.getD i .non) = _
      rw [List.getD_eq_getElem?_getD, List.getElem?_eq_getElem (by omega)]
      rfl
    · refine iteTe (by simp; omega) ?_
      refine ⟨_, rfl, _, _, rfl, .inl hr', ?_⟩
      refine ⟨(by show 1 ≤ 1000; decide), mk_what R.ek fun d H' hd sm hq => ?_⟩
      exact qn c d H' ⟨hd, sm, hq⟩
end
section
variable {P : Program} {w : World} {K : PySem.W.Frag} {mg : Str → Option Value} {base : Heap}
def spPutT (K : PySem.W.Frag) (C : Addr) : Sp := fun vs H Q E => ∃ (r a : Addr) (xs : List V) (t : List Nat), vs = [.ref r, .ref a] ∧ SqT K H r xs ∧ SqT K H a (t.map vN) ∧ IsP t ∧ t.length ≤ 1000 ∧
  (xs.length = t.length → ∀ p ys H', PutOf t xs ys → H p = none → Same H H' → H' p = some (.lst ys) → Q (.ref p) H') ∧ (xs.length ≠ t.length → ∀ d H', Wh H H' d (.int xs.length) → E (.ref C) (some d) H')
theorem ok_putT {f f1 fI C CT : Addr} {fd d1 fdI : FuncData} {k : Nat} (F : Fun K "put_in_order" "put_in_order" s_put_in_order f fd) (T : Blt mg) (D_inverse_order : Df K mg "inverse_order" s_inverse_order P_inverse_order f1 d1) (x : XI K fI fdI) (R : Ref K CT C fI) (M_BadLength : mg "BadLength" = some (.ref C)) : FnOk P w K mg base (L2.CX P w) (k + 3) f fd P_put_in_order (spPutT K C) := by
  have G_init : FnOk P w K mg base CX0 1 fI fdI N_init (spInit K) := ok_init x.F
  have G_inverse_order : FnOk P w K mg base CX0 1 f1 d1 P_inverse_order (spInvOT K) := ok_invOT D_inverse_order.F T
  have I_ty := x.ty
  have I_b := x.b
  have EK_BadLength := R.ek
  have II_BadLength := R.ini
  have nd := sc_put_in_order.nd
  refine F.okX sc_put_in_order (fun vs H Q E h => ?_) (fun cdv A outer s H vs Q E hr h => ?_)
  · obtain ⟨r, a, xs, t, rfl, _⟩ := h
    rfl
  · obtain ⟨r, a, xs, t, rfl, hr', ha, ht, hlen, qy, qn⟩ := h
    refine ⟨_, (pss_cons (ps_if (pt_cmpR op_ne (pe_callB (r := rLenQ K) call_len_seq (by rfl) T.b_len (by decide +kernel) (pa_cons (pv 0) pa_nil)) (pe_callB (r := rLenQ K) call_len_seq (by rfl) T.b_len (by decide +kernel) (pa_cons (pv 1) pa_nil)) (nomark _)) (pss_one (ps_raise rfl (takes_of rfl rfl rfl rfl) (pmk_oex EK_BadLength.oex II_BadLength I_ty G_init (hr.mono (by omega)) I_b .nil pass0 (by rfl) M_BadLength (pa_cons (pe_callB (r := rLenQ K) call_len_seq (by rfl) T.b_len (by decide +kernel) (pa_cons (pv 0) pa_nil)) pa_nil)))) pss_nil)
      (pss_one (ps_ret (pe_lc (own := [("at", 2)]) (g := gName 2) (by rfl) nd (pi_list (pe_call G_inverse_order (hr.mono (by omega)) (by rfl) D_inverse_order.g D_inverse_order.F.kp D_inverse_order.b .nil pass0 (pa_cons (pv 1) pa_nil))) (blkOk_by (own := [("at", 2)]) (N := N_put_in_order) (sc := defScope s_put_in_order) (by decide +kernel)) (fun _ _ _ _ _ => (pg_name (i := 2) nd rfl (Or.inl rfl))) (fun _ _ _ _ _ => pts_nil) (fun _ _ _ _ _ => (pe_ix (r := rIxT K) ix_tup (pv 0) (pv 2) (fun _ _ => rfl))))))), ?_⟩
    walk_at "ev"
    by_cases c : xs.length = t.length
    · refine iteFe (by simp [c]) ?_
      walk_at "ev"
      intro p u H1 hu hp sm1 hq1
      have hL1 := SqL.of (K := K) hq1
      have hr1 := same_t sm1 hr'
      have hup := hu.isP ht
      refine ⟨p, rfl, ⟨_, hL1⟩, fun D hD => ?_⟩
      refine lc_list (K := K) (a := p) (xs := u.map vN) (fun j H' => Hold (Same H1 H' ∧ H' D = some (.lst ((u.take j).map fun i => xs.getD i .non)))) (.mk ⟨same_new hD, upd_same⟩) ?_ ?_ ?_
      · intro j H2 hj hP
        obtain ⟨sm2, hD2⟩ := hP.un
        exact sm2.seq hL1
      · intro j v H2 hv hP
        obtain ⟨sm2, hD2⟩ := hP.un
        rw [List.getElem?_map] at hv
        obtain ⟨i, hi, ev⟩ := Option.map_eq_some_iff.mp hv
        subst ev
        have hjl : j < u.length := (List.getElem?_eq_some_iff.mp hi).1
        have hil := hup.2 i (List.mem_of_getElem? hi)
        rw [hu.1] at hil hjl
        have hr2 := same_t sm2 hr1
        have hat : atI xs (i : Nat) = some (xs.getD i .non) := by
          refine at_of (j := i) rfl ?_
          rw [List.getD_eq_getElem?_getD, List.getElem?_eq_getElem (by omega)]
          rfl
        have hsz : ((u.take j).map fun i => xs.getD i .non).length < sizeLine := szm (by rw [List.length_map, List.length_take]; omega)
        walk_at "ev"
        refine .mk ⟨same_mut sm2 hD, ?_⟩
        rw [upd_same, List.take_add_one, hi, List.map_append]
        rfl
      intro H2 hP
      obtain ⟨sm2, hD2⟩ := hP.un
      rw [List.length_map, List.take_length] at hD2
      refine qy c D _ H2 ⟨by rw [List.length_map]; exact hu.1, fun i x hi => ?_⟩ (sm1.free hD) (sm1.trans sm2) hD2
      have hil : i < t.length := (List.getElem?_eq_some_iff.mp hi).1
      rw [List.getElem?_map, hu.2 i x hi]
      show some (xs.getD i .non) = _
      rw [List.getD_eq_getElem?_getD, List.getElem?_eq_getElem (by omega)]
      rfl
    · refine iteTe (by simp; omega) ?_
      refine ⟨_, rfl, _, _, rfl, .inr hr', ?_⟩
      refine ⟨(by show 1 ≤ 1000; decide), mk_what R.ek fun d H' hd sm hq => ?_⟩
      exact qn c d H' ⟨hd, sm, hq⟩
end
/-! ### rounds of an order -/
def itN (t : List Nat) (s : Nat) : Nat → Nat
  | 0 => s
  | i + 1 => t.getD (itN t s i) 0
theorem it_lt {t : List Nat} {s : Nat} (h : IsP t) (hs : s < t.length) : ∀ i : Nat, itN t s i < t.length
  | 0 => hs
  | i + 1 => by
    have ih := it_lt h hs i
    rw [itN, List.getD_eq_getElem?_getD, List.getElem?_eq_getElem ih]
    exact h.2 _ (List.getElem_mem ih)
theorem it_get {t : List Nat} {s : Nat} (h : IsP t) (hs : s < t.length) (i : Nat) : t[itN t s i]? = some (itN t s (i + 1)) := by
  rw [itN, List.getD_eq_getElem?_getD, List.getElem?_eq_getElem (it_lt h hs i)]
  rfl
theorem it_shift {t : List Nat} {s : Nat} (h : IsP t) (hs : s < t.length) : ∀ (i d : Nat), itN t s i = itN t s (i + d) → itN t s d = s
  | 0, d, e => by
    rw [Nat.zero_add] at e
    exact e.symm
  | i + 1, d, e => by
    refine it_shift h hs i d ?_
    have h1 := it_get h hs i
    have h2 := it_get h hs (i + d)
    rw [e, show i + 1 + d = i + d + 1 by omega] at h1
    exact h.inj h1 h2
theorem it_back {t : List Nat} {s : Nat} (h : IsP t) (hs : s < t.length) : ∃ r, 1 ≤ r ∧ r ≤ t.length ∧ itN t s r = s := by
  apply Classical.byContradiction
  intro c
  have hn : ((List.range (t.length + 1)).map (itN t s)).Nodup := by
    refine List.pairwise_iff_getElem.mpr fun i j hi hj hij e => ?_
    rw [List.getElem_map, List.getElem_map, List.getElem_range, List.getElem_range] at e
    rw [List.length_map, List.length_range] at hj
    exact c ⟨j - i, by omega, by omega, it_shift h hs i (j - i) (by rw [e, show i + (j - i) = j by omega])⟩
  have := pigeon t.length _ hn fun x hx => by
    obtain ⟨i, _, rfl⟩ := List.mem_map.mp hx
    exact it_lt h hs i
  rw [List.length_map, List.length_range] at this
  omega
/-- from s on it comes round behind m + 1 steps, no sooner -/
def Cyc (t : List Nat) (s m : Nat) : Prop := s < t.length ∧ itN t s (m + 1) = s ∧ ∀ j, 1 ≤ j → j ≤ m → itN t s j ≠ s
def CycL (t : List Nat) (H : Hp) (ps : List V) : Prop := ∀ v ∈ ps, ∃ (p : Addr) (s m : Nat), v = .ref p ∧ Cyc t s m ∧ m < t.length ∧ H p = some (.lst (((List.range (m + 1)).map (itN t s)).map vN))
theorem CycL.same {t : List Nat} {H H' : Hp} {ps : List V} (h : CycL t H ps) (e : Same H H') : CycL t H' ps := fun v hv => by
  obtain ⟨p, s, m, h1, h2, h3, h4⟩ := h v hv
  exact ⟨p, s, m, h1, h2, h3, e _ _ h4⟩
theorem CycL.mut {t : List Nat} {H : Hp} {ps : List V} {l : Addr} {o : HO} (h : CycL t H ps) (n : ∀ v ∈ ps, v ≠ .ref l) : CycL t (upd H l o) ps := fun v hv => by
  obtain ⟨p, s, m, h1, h2, h3, h4⟩ := h v hv
  have np : p ≠ l := fun z => n v hv (by rw [h1, z])
  exact ⟨p, s, m, h1, h2, h3, by rw [upd_ne np]; exact h4⟩
abbrev s_round_from : Stmt := top 8
abbrev N_round_from : List Str := ["order", "start", "told", "place"]
abbrev P_round_from : List Str := ["order", "start"]
theorem sc_round_from : FnScope N_round_from P_round_from (defScope s_round_from) := ⟨rfl, rfl, rfl, by decide +kernel, rfl, by decide +kernel, by decide +kernel⟩
section
variable {P : Program} {w : World} {K : PySem.W.Frag} {mg : Str → Option Value} {base : Heap}
def spRoundL (K : PySem.W.Frag) : Sp := fun vs H Q _ => ∃ (a : Addr) (t : List Nat) (s : Nat), vs = [.ref a, .int s] ∧ SqL K H a (t.map vN) ∧ IsP t ∧ t.length ≤ 60 ∧ s < t.length ∧ ∀ p m H', Cyc t s m → m < t.length → H p = none → Same H H' → H' p = some (.lst (((List.range (m + 1)).map (itN t s)).map vN)) → Q (.ref p) H'
theorem ok_roundL {f : Addr} {fd : FuncData} {k : Nat} (F : Fun K "round_from" "round_from" s_round_from f fd) (T : Blt mg) : FnOk P w K mg base CX0 (k + 1) f fd P_round_from (spRoundL K) := by
  have nd := sc_round_from.nd
  refine F.ok sc_round_from (fun vs H Q E h => ?_) (fun cdv A outer s H vs Q E hr h => ?_)
  · obtain ⟨a, t, s, rfl, _⟩ := h
    rfl
  · obtain ⟨a, t, st, rfl, ha, ht, hlen, hs, q⟩ := h
    refine ⟨_, (pss_cons (ps_set (i := 2) nd rfl (Or.inl rfl) (pe_lst (pa_cons (pv 1) pa_nil)))
      (pss_cons (ps_set (i := 3) nd rfl (Or.inl rfl) (pe_ix (r := rIxL K) ix_list (pv 0) (pv 1) (fun _ _ => rfl)))
      (pss_cons (ps_while PassesOwn.never (pt_cmpR op_ne (pv 3) (pv 1) (nomark _))
      (pss_cons (ps_expr (pe_bm PySem.F.plainAttrs_list PySem.F.slot_list_append PySem.F.type_list_append mt_append (pv 2) (pa_cons (pv 3) pa_nil)))
      (pss_one (ps_set (i := 3) nd rfl (Or.inl rfl) (pe_ix (r := rIxL K) ix_list (pv 0) (pv 3) (fun _ _ => rfl))))))
      (pss_one (ps_ret (pv 2)))))), ?_⟩
    obtain ⟨r, r1, r2, hret⟩ := it_back ht hs
    have atv : ∀ i : Nat, atI (t.map vN) ((itN t st i : Nat) : Int) = some (vN (itN t st (i + 1))) := fun i => by
      have hl := it_lt ht hs i
      refine at_of (j := itN t st i) rfl ?_
      rw [List.getElem?_map, itN, List.getD_eq_getElem?_getD, List.getElem?_eq_getElem hl]
      rfl
    have at0 := atv 0
    walk_at "ev"
    w_cond _1
    have ha1 := Same.seq sm1 ha
    have at0' : atI (t.map vN) ((st : Nat) : Int) = some (vN (itN t st 1)) := at0
    walk_at "ev"
    refine ⟨fun m σ H' => ∃ i : Nat, σ = [some (.ref a), some (.int st), some (.ref l1), some (vN (itN t st (i + 1)))] ∧ m = r - i ∧ i < r ∧ (∀ j, 1 ≤ j → j ≤ i → itN t st j ≠ st) ∧ Same H H' ∧ H' l1 = some (.lst (((List.range (i + 1)).map (itN t st)).map vN)), ⟨_, 0, rfl, rfl, by omega, fun j h1 h2 => by omega, sm1, hq1⟩, ?_⟩
    rintro m σ H2 ⟨i, rfl, rfl, hir, hno, sm2, hq2⟩
    walk_at "ev"
    by_cases c : itN t st (i + 1) = st
    · refine iteFe (by rw [c]; simp) ?_
      walk_at "ev"
      exact q l1 i H2 ⟨hs, c, hno⟩ (by omega) hl1 sm2 hq2
    · refine iteTe (by simp; omega) ?_
      refine ⟨_, holdN, ?_⟩
      have hir2 : i + 1 < r := by
        have : i + 1 ≠ r := fun z => c (by rw [z]; exact hret)
        omega
      have ty2 : tyV K "list" (.ref l1) H2 := .inl ⟨rfl, _, SqL.of hq2⟩
      have z2 : (((List.range (i + 1)).map (itN t st)).map vN).length < sizeLine := szm (by rw [List.length_map, List.length_map, List.length_range]; omega)
      have at2 := atv (i + 1)
      have nla : SqL K (upd H2 l1 (.lst (((List.range (i + 1)).map (itN t st)).map vN ++ [vN (itN t st (i + 1))]))) a (t.map vN) := Same.seq (same_mut sm2 hl1) ha
      walk_at "ev"
      refine .mk ⟨r - (i + 1), by omega, i + 1, rfl, rfl, hir2, fun j h1 h2 => ?_, same_mut sm2 hl1, ?_⟩
      · by_cases e : j = i + 1
        · rw [e]
          exact c
        · exact hno j h1 (by omega)
      · rw [upd_same, List.range_succ (n := i + 1), List.map_append, List.map_append]
        rfl
end
abbrev s_order_cycles : Stmt := top 9
abbrev N_order_cycles : List Str := ["order", "told", "seen", "start", "places", "place"]
abbrev P_order_cycles : List Str := ["order"]
theorem sc_order_cycles : FnScope N_order_cycles P_order_cycles (defScope s_order_cycles) := ⟨rfl, rfl, rfl, by decide +kernel, rfl, by decide +kernel, by decide +kernel⟩
section
variable {P : Program} {w : World} {K : PySem.W.Frag} {mg : Str → Option Value} {base : Heap}
def spCycL (K : PySem.W.Frag) : Sp := fun vs H Q _ => ∃ (a : Addr) (t : List Nat), vs = [.ref a] ∧ SqL K H a (t.map vN) ∧ IsP t ∧ t.length ≤ 60 ∧ ∀ l (ps : List V) H', ps.length ≤ t.length → CycL t H' ps → H l = none → Same H H' → H' l = some (.lst ps) → Q (.ref l) H'
theorem ok_cycL {f f1 : Addr} {fd d1 : FuncData} {k : Nat} (F : Fun K "order_cycles" "order_cycles" s_order_cycles f fd) (T : Blt mg) (D_round_from : Df K mg "round_from" s_round_from P_round_from f1 d1) : FnOk P w K mg base CX0 (k + 2) f fd P_order_cycles (spCycL K) := by
  have G_round_from : FnOk P w K mg base CX0 1 f1 d1 P_round_from (spRoundL K) := ok_roundL D_round_from.F T
  have nd := sc_order_cycles.nd
  refine F.ok sc_order_cycles (fun vs H Q E h => ?_) (fun cdv A outer s H vs Q E hr h => ?_)
  · obtain ⟨a, t, rfl, _⟩ := h
    rfl
  · obtain ⟨a, t, rfl, ha, ht, hlen, q⟩ := h
    refine ⟨_, (pss_cons (ps_set (i := 1) nd rfl (Or.inl rfl) (pe_lst pa_nil))
      (pss_cons (ps_set (i := 2) nd rfl (Or.inl rfl) (pe_callTy0 cr_set0 (by rfl) T.b_set (by decide +kernel)))
      (pss_cons (ps_for PassesOwn.never rfl (pi_range1 (by rfl) T.b_range (pa_cons (pe_callB (r := rLenQ K) call_len_seq (by rfl) T.b_len (by decide +kernel) (pa_cons (pv 0) pa_nil)) pa_nil)) (pg_name (i := 3) nd rfl (Or.inl rfl))
      (pss_cons (ps_if (PW.pt (pw_or (pt_cmpR or_sin (pv 3) (pv 2) (by rfl)) (pw_or1 (pt_cmpR op_eq (pe_ix (r := rIxL K) ix_list (pv 0) (pv 3) (fun _ _ => rfl)) (pv 3) (nomark _))))) (pss_one (ps_continue)) pss_nil)
      (pss_cons (ps_set (i := 4) nd rfl (Or.inl rfl) (pe_call G_round_from (hr.mono (by omega)) (by rfl) D_round_from.g D_round_from.F.kp D_round_from.b .nil pass0 (pa_cons (pv 0) (pa_cons (pv 3) pa_nil))))
      (pss_cons (ps_for PassesOwn.never rfl (pi_list (pv 4)) (pg_name (i := 5) nd rfl (Or.inl rfl))
      (pss_one (ps_expr (pe_sadd (pv 2) (pa_cons (pv 5) pa_nil)))))
      (pss_one (ps_expr (pe_bm PySem.F.plainAttrs_list PySem.F.slot_list_append PySem.F.type_list_append mt_append (pv 1) (pa_cons (pv 4) pa_nil))))))))
      (pss_one (ps_ret (pv 1)))))), ?_⟩
    walk_at "ev"
    w_cond _1
    walk_at "ev"
    w_cond _2
    have ha2 := Same.seq (sm1.trans sm2) ha
    have f2 : H l2 = none := sm1.free hl2
    have n12 : l1 ≠ l2 := ne_of_none hq1 hl2
    walk_at "ev"
    refine for_range (lo := 0) (n := _) (fun i σ H' => Hold (∃ (ps : List V) (S : Int → Bool) (n : Nat) (s3 s4 s5 : Option V), σ = [some (.ref a), some (.ref l1), some (.ref l2), s3, s4, s5] ∧ Same H H' ∧ ps.length ≤ i ∧ CycL t H' ps ∧ n ≤ 60 * i ∧ H' l1 = some (.lst ps) ∧ H' l2 = some (SetO w l2 S n) ∧ (∀ v ∈ ps, v ≠ .ref l1 ∧ v ≠ .ref l2))) (.mk ⟨[], _, 0, none, none, none, rfl, sm1.trans sm2, Nat.le_refl _, fun v hv => absurd hv (by simp), Nat.zero_le _, sm2 _ _ hq1, hq2, fun v hv => absurd hv (by simp)⟩) ?_ ?_
    · intro i σ H3 hi hP
      obtain ⟨ps, S, n, s3, s4, s5, rfl, sm3, hpl, hcy, hn, h13, h23, hpv⟩ := hP.un
      have hil : i < t.length := by
        rw [List.length_map] at hi
        omega
      have ha3 := Same.seq sm3 ha
      have hat : atI (t.map vN) (0 + (i : Int)) = some (vN (t.getD i 0)) := by
        refine at_of (j := i) (by omega) ?_
        rw [List.getElem?_map, List.getD_eq_getElem?_getD, List.getElem?_eq_getElem hil]
        rfl
      walk_at "ev"
      refine ite2 (fun c => ?_) (fun c => ?_)
      · walk_at "ev"
        exact .mk ⟨ps, S, n, _, _, _, rfl, sm3, by omega, hcy, by omega, h13, h23, hpv⟩
      · walk_at "ev"
        refine ite2 (fun c2 => ?_) (fun c2 => ?_)
        · walk_at "ev"
          exact .mk ⟨ps, S, n, _, _, _, rfl, sm3, by omega, hcy, by omega, h13, h23, hpv⟩
        · rw [show (0 : Int) + (i : Int) = ((i : Nat) : Int) by omega]
          walk_at "ev"
          intro p m H4 hc4 hm hp sm4 hq4
          have h14 := sm4 _ _ h13
          have h24 := sm4 _ _ h23
          have np1 : p ≠ l1 := (ne_of_none h13 hp).symm
          have np2 : p ≠ l2 := (ne_of_none h23 hp).symm
          have hcy4 : CycL t H4 ps := hcy.same sm4
          have hL4 := SqL.of (K := K) hq4
          have hll : (((List.range (m + 1)).map (itN t i)).map vN).length = m + 1 := by rw [List.length_map, List.length_map, List.length_range]
          walk_at "ev"
          refine ⟨⟨_, hL4⟩, ?_⟩
          refine for_list (K := K) (a := p) (xs := ((List.range (m + 1)).map (itN t i)).map vN) (fun j σ H' => Hold (∃ (S : Int → Bool) (n : Nat) (s5 : Option V), σ = [some (.ref a), some (.ref l1), some (.ref l2), some (.int (i : Nat)), some (.ref p), s5] ∧ Same H H' ∧ CycL t H' ps ∧ n ≤ 60 * i + j ∧ H' l1 = some (.lst ps) ∧ H' l2 = some (SetO w l2 S n) ∧ H' p = some (.lst (((List.range (m + 1)).map (itN t i)).map vN)))) (.mk ⟨S, n, _, rfl, sm3.trans sm4, hcy4, by omega, h14, h24, hq4⟩) ?_ ?_ ?_
          · intro j σ H5 hj hP5
            obtain ⟨S, n, t5, rfl, sm5, hc5, hn5, h15, h25, hp5⟩ := hP5.un
            exact SqL.of hp5
          · intro j v σ H5 hv hP5
            obtain ⟨S, n, t5, rfl, sm5, hc5, hn5, h15, h25, hp5⟩ := hP5.un
            have hjl := (List.getElem?_eq_some_iff.mp hv).1
            rw [hll] at hjl
            rw [List.getElem?_map] at hv
            obtain ⟨y, hy, ev⟩ := Option.map_eq_some_iff.mp hv
            subst ev
            have hsb : n + 1 < scanBound := by
              show n + 1 < 4096
              omega
            have hex : ∃ a S n, V.ref l2 = V.ref a ∧ H5 a = some (SetO w a S n) := ⟨l2, S, n, rfl, h25⟩
            walk_at "ev"
            refine .mk ⟨_, (if S ((y : Nat) : Int) = true then n else n + 1), _, rfl, same_mut sm5 f2, hc5.mut fun v hv => (hpv v hv).2, ?_, by rw [upd_ne n12]; exact h15, upd_same, by rw [upd_ne np2]; exact hp5⟩
            split <;> omega
          · intro σ H5 hP5
            obtain ⟨S, n, t5, rfl, sm5, hc5, hn5, h15, h25, hp5⟩ := hP5.un
            rw [hll] at hn5
            have ty5 : tyV K "list" (.ref l1) H5 := .inl ⟨rfl, _, SqL.of h15⟩
            have z5 : ps.length < sizeLine := szm (by omega)
            walk_at "ev"
            refine .mk ⟨ps ++ [.ref p], S, n, _, _, _, rfl, same_mut sm5 hl1, ?_, ?_, by omega, upd_same, by rw [upd_ne n12.symm]; exact h25, ?_⟩
            · rw [List.length_append]
              show ps.length + 1 ≤ i + 1
              omega
            · intro v hv
              rcases List.mem_append.mp hv with z | z
              · exact (hc5.mut fun v hv => (hpv v hv).1) v z
              · rw [List.mem_singleton.mp z]
                exact ⟨p, i, m, rfl, hc4, hm, by rw [upd_ne np1]; exact hp5⟩
            · intro v hv
              rcases List.mem_append.mp hv with z | z
              · exact hpv v z
              · rw [List.mem_singleton.mp z]
                exact ⟨fun e => np1 (V.ref.inj e), fun e => np2 (V.ref.inj e)⟩
    · intro σ H3 hP
      obtain ⟨ps, S, n, s3, s4, s5, rfl, sm3, hpl, hcy, hn, h13, h23, hpv⟩ := hP.un
      walk_at "ev"
      refine q l1 ps H3 ?_ hcy hl1 sm3 h13
      rw [List.length_map] at hpl
      omega
end
theorem keep_fresh {b D : Addr} {H H' : Hp} {o : HO} (h : Keep b H H') (n : H D = none) : Keep b H (upd H' D o) := fun a u na e => by
  rw [upd_ne (ne_of_none e n)]
  exact h a u na e
theorem BoxAt.upd {H : Hp} {b D : Addr} {n : Int} {o : HO} (h : BoxAt H b n) (e : D ≠ b) : BoxAt (L2.upd H D o) b n := by
  obtain ⟨x, y, z, a1, a2⟩ := h
  exact ⟨x, y, z, by rw [upd_ne e.symm]; exact a1, a2⟩
theorem dpl {K : PySem.W.Frag} {H : Hp} {a : Addr} (ns : List Int) (h : SqL K H a (ns.map V.int)) : Dp K H (.ref a) (.list (ns.map PyData.int)) := .lst h (dp_ints ns)
theorem fitl (ns : List Int) (h : ns.length ≤ 4000) : Fit 1 (.list (ns.map PyData.int)) := by
  refine ⟨by rw [List.length_map]; exact h, fun e he => ?_⟩
  obtain ⟨c, _, rfl⟩ := List.mem_map.mp he
  exact True.intro
theorem fit_ni {x : Str} {a : Int} : Fit 1 (.tuple [.str x, .int a]) := by
  refine ⟨by simp, fun e he => ?_⟩
  simp only [List.mem_cons, List.not_mem_nil, or_false] at he
  rcases he with h | h <;> rw [h] <;> exact True.intro
abbrev s__law_shuffled : Stmt := top 15
abbrev N__law_shuffled : List Str := ["_law_box_here", "_law_count", "_law_some", "_law_way", "_law_found", "_law_turn", "_law_one"]
abbrev P__law_shuffled : List Str := ["_law_box_here", "_law_count"]
theorem sc__law_shuffled : FnScope N__law_shuffled P__law_shuffled (defScope s__law_shuffled) := ⟨rfl, rfl, rfl, by decide +kernel, rfl, by decide +kernel, by decide +kernel⟩
def spShuf : Sp := fun vs H Q _ => ∃ (b : Addr) (c : Nat) (n : Int), vs = [.ref b, .int c] ∧ BoxAt H b n ∧ n < 900000 ∧ 1 ≤ c ∧ c ≤ 60 ∧ ∀ p t H', IsP t → t.length = c → H p = none → Keep b H H' → BoxAt H' b (n + 70) → H' p = some (.lst (t.map vN)) → Q (.ref p) H'
theorem rg_vN (n : Nat) : rgV 0 (n : Int) = (List.range n).map vN := by
  unfold rgV
  rw [Int.sub_zero]
  refine List.map_congr_left fun i _ => ?_
  show V.int (0 + (i : Int)) = V.int (i : Int)
  rw [Int.zero_add]
def swp (c i : Nat) : Nat := if i + 1 < c ∨ i % 2 = 1 then i + 1 - 2 * (i % 2) else i
theorem swp_p (c : Nat) : IsP ((List.range c).map (swp c)) := by
  refine ⟨List.pairwise_iff_getElem.mpr fun i j hi hj hij e => ?_, fun x hx => ?_⟩
  · rw [List.length_map, List.length_range] at hi hj
    rw [List.getElem_map, List.getElem_map, List.getElem_range, List.getElem_range] at e
    unfold swp at e
    split at e <;> split at e <;> omega
  · obtain ⟨i, hi, rfl⟩ := List.mem_map.mp hx
    have := List.mem_range.mp hi
    rw [List.length_map, List.length_range]
    unfold swp
    split <;> omega
theorem er_map {f : Nat → V} : ∀ (l : List Nat) (k : Nat), (l.map f).eraseIdx k = (l.eraseIdx k).map f
  | [], _ => rfl
  | _ :: _, 0 => rfl
  | x :: l, k + 1 => by
    rw [List.map_cons, List.eraseIdx_cons_succ, List.eraseIdx_cons_succ, er_map l k, List.map_cons]
theorem er_perm : ∀ (l : List Nat) (k x : Nat), l[k]? = some x → (x :: l.eraseIdx k).Perm l
  | [], _, _, h => by simp at h
  | y :: l, 0, x, h => by
    cases Option.some.inj h
    exact List.Perm.refl _
  | y :: l, k + 1, x, h => by
    rw [List.eraseIdx_cons_succ]
    exact (List.Perm.swap y x _).trans ((er_perm l k x h).cons y)
section
variable {P : Program} {w : World} {K : PySem.W.Frag} {mg : Str → Option Value} {base : Heap}
theorem ok_shuf {f f1 : Addr} {fd d1 : FuncData} {k : Nat} (F : Fun K "_law_shuffled" "_law_shuffled" s__law_shuffled f fd) (T : Blt mg) (D__law_take : Df K mg "_law_take" s__law_take P__law_take f1 d1) : FnOk P w K mg base CX0 (k + 2) f fd P__law_shuffled spShuf := by
  have G__law_take : FnOk P w K mg base CX0 1 f1 d1 P__law_take spTake := ok_take D__law_take.F
  have nd := sc__law_shuffled.nd
  refine F.ok sc__law_shuffled (fun vs H Q E h => ?_) (fun cdv A outer s H vs Q E hr h => ?_)
  · obtain ⟨b, c, n, rfl, _⟩ := h
    rfl
  · obtain ⟨b, c, n, rfl, hb, hn, c1, c60, q⟩ := h
    refine ⟨_, (pss_cons (ps_par (i := 2) (j := 3) (by rfl) nd rfl rfl (by decide) rfl rfl (pa_cons (pe_listRg (by rfl) (by rfl) T.b_list (prg_1 (by rfl) T.b_range (pv 1))) (pa_cons (pe_call G__law_take (hr.mono (by omega)) (by rfl) D__law_take.g D__law_take.F.kp D__law_take.b .nil pass0 (pa_cons (pv 0) (pa_cons (pe_int) pa_nil))) pa_nil)) (by rfl))
      (pss_cons (ps_if (pt_cmpR op_eq (pv 3) (pe_int) (nomark _)) (pss_one (ps_ret (pv 2))) pss_nil)
      (pss_cons (ps_if (pt_cmpR op_eq (pv 3) (pe_int) (nomark _)) (pss_one (ps_ret (pe_op op_cat (pe_slice (r := rSlL K) sl_list (pv 2) (po_some (pe_int)) po_none) (pe_slice (r := rSlL K) sl_list (pv 2) po_none (po_some (pe_int)))))) pss_nil)
      (pss_cons (ps_if (pt_cmpR op_eq (pv 3) (pe_int) (nomark _)) (pss_one (ps_ret (pe_lc (own := [("_law_one", 6)]) (g := gName 6) (by rfl) nd (pi_list (pv 2)) (blkOk_by (own := [("_law_one", 6)]) (N := N__law_shuffled) (sc := defScope s__law_shuffled) (by decide +kernel)) (fun _ _ _ _ _ => (pg_name (i := 6) nd rfl (Or.inl rfl))) (fun _ _ _ _ _ => pts_nil) (fun _ _ _ _ _ => (pe_ifExp (PW.pt (pw_or (pt_cmpR op_lt (pe_op op_add (pv 6) (pe_int)) (pv 1) (nomark _)) (pw_or1 (pt_cmpR op_eq (pe_op op_mod (pv 6) (pe_int)) (pe_int) (nomark _))))) (pe_op op_sub (pe_op op_add (pv 6) (pe_int)) (pe_op op_mul (pe_int) (pe_op op_mod (pv 6) (pe_int)))) (pv 6)))))) pss_nil)
      (pss_cons (ps_set (i := 4) nd rfl (Or.inl rfl) (pe_lst pa_nil))
      (pss_cons (ps_for PassesOwn.never rfl (pi_range1 (by rfl) T.b_range (pa_cons (pv 1) pa_nil)) (pg_name (i := 5) nd rfl (Or.inl rfl))
      (pss_one (ps_expr (pe_bm PySem.F.plainAttrs_list PySem.F.slot_list_append PySem.F.type_list_append mt_append (pv 4) (pa_cons (pe_bm PySem.F.plainAttrs_list PySem.F.slot_list_pop PySem.F.type_list_pop mt_popAt (pv 2) (pa_cons (pe_call G__law_take (hr.mono (by omega)) (by rfl) D__law_take.g D__law_take.F.kp D__law_take.b .nil pass0 (pa_cons (pv 0) (pa_cons (pe_callB (r := rLenQ K) call_len_seq (by rfl) T.b_len (by decide +kernel) (pa_cons (pv 2) pa_nil)) pa_nil))) pa_nil)) pa_nil)))))
      (pss_one (ps_ret (pv 4))))))))), ?_⟩
    walk_at "ev"
    refine ⟨RgOk.of_le (by decide) (by omega) (by decide) (by omega), ?_⟩
    w_cond _1
    rw [rg_vN] at hq1
    have n1b := hb.ne hl1
    have hb1 := hb.same sm1
    walk_at "ev"
    intro r2 H2 r20 r21 k2 hb2
    have h12 := k2 _ _ n1b hq1
    have hL2 := SqL.of (K := K) h12
    have k02 : Keep b H H2 := (keepS sm1).trans k2
    walk_at "ev"
    refine ite2 (fun e => ?_) (fun e => ?_)
    · walk_at "ev"
      obtain ⟨p1, p2⟩ := IsP.of_perm (List.Perm.refl (List.range c))
      exact q l1 _ H2 p1 p2 hl1 k02 (hb2.mono (by omega)) h12
    walk_at "ev"
    refine ite2 (fun e => ?_) (fun e => ?_)
    · walk_at "ev"
      w_cond _3
      have hL3 := sm3.seq hL2
      walk_at "ev"
      w_cond _4
      have e1 : cutV ((List.range c).map vN) (some 1) none = ((List.range c).drop 1).map vN := by
        have z : cutV ((List.range c).map vN) (some 1) none = (((List.range c).map vN).drop (min 1 ((List.range c).map vN).length)).take (((List.range c).map vN).length - min 1 ((List.range c).map vN).length) := rfl
        rw [z, List.length_map, List.length_range, Nat.min_eq_left c1, List.take_of_length_le (by rw [List.length_drop, List.length_map, List.length_range]; omega), List.map_drop]
      have e2 : cutV ((List.range c).map vN) none (some 1) = ((List.range c).take 1).map vN := by
        have z : cutV ((List.range c).map vN) none (some 1) = ((List.range c).map vN).take (min 1 ((List.range c).map vN).length) := rfl
        rw [z, List.length_map, List.length_range, Nat.min_eq_left c1, List.map_take]
      rw [e1] at hq3
      rw [e2] at hq4
      have h34 := sm4 _ _ hq3
      have z4 : (((List.range c).drop 1).map vN).length + (((List.range c).take 1).map vN).length ≤ sizeLine := szl (by simp; omega)
      walk_at "ev"
      w_cond _5
      have hp : ((List.range c).drop 1 ++ (List.range c).take 1).Perm (List.range c) := by
        have := List.perm_append_comm (l₁ := (List.range c).drop 1) (l₂ := (List.range c).take 1)
        rw [List.take_append_drop] at this
        exact this
      obtain ⟨p1, p2⟩ := IsP.of_perm hp
      have s25 := sm3.trans (sm4.trans sm5)
      have n5 : H l5 = none := by
        cases z : H l5 with
        | none => rfl
        | some o =>
          have n5b : l5 ≠ b := (hb2.same (sm3.trans sm4)).ne hl5
          have z2 := (sm3.trans sm4) _ _ (k02 _ _ n5b z)
          rw [hl5] at z2
          cases z2
      exact q l5 _ H5 p1 p2 n5 (k02.trans (keepS s25)) ((hb2.same s25).mono (by omega)) (by rw [hq5, List.map_append])
    walk_at "ev"
    refine ite2 (fun e => ?_) (fun e => ?_)
    · walk_at "ev"
      refine ⟨⟨_, hL2⟩, fun D hD => ?_⟩
      refine lc_list (K := K) (a := l1) (xs := (List.range c).map vN) (fun j H' => Hold (Same H2 H' ∧ H' D = some (.lst (((List.range j).map (swp c)).map vN)))) (.mk ⟨same_new hD, upd_same⟩) ?_ ?_ ?_
      · intro j H3 hj hP
        obtain ⟨sm3, hD3⟩ := hP.un
        exact sm3.seq hL2
      · intro j v H3 hv hP
        obtain ⟨sm3, hD3⟩ := hP.un
        have hjl := (List.getElem?_eq_some_iff.mp hv).1
        rw [List.length_map, List.length_range] at hjl
        rw [List.getElem?_map, List.getElem?_range hjl] at hv
        cases Option.some.inj hv
        have hsz : (((List.range j).map (swp c)).map vN).length < sizeLine := szm (by rw [List.length_map, List.length_map, List.length_range]; omega)
        have fin : ∀ z : Int, z = ((swp c j : Nat) : Int) → Hold (Same H2 (upd H3 D (.lst (((List.range j).map (swp c)).map vN ++ [V.int z]))) ∧ upd H3 D (.lst (((List.range j).map (swp c)).map vN ++ [V.int z])) D = some (.lst (((List.range (j + 1)).map (swp c)).map vN))) := fun z hz => by
          refine .mk ⟨same_mut sm3 hD, ?_⟩
          rw [upd_same, List.range_succ, List.map_append, List.map_append, hz]
          rfl
        have cm : CMul 2 ((j : Int) % 2) := .inl ⟨by omega, by omega⟩
        walk_at "ev"
        refine ite2 (fun c2 => ?_) (fun c2 => ?_)
        · have c3 : j + 1 < c := by
            have := of_decide_eq_true c2
            omega
          walk_at "ev"
          refine fin _ ?_
          unfold swp
          rw [if_pos (.inl c3)]
          omega
        · have c3 : ¬ j + 1 < c := fun z => c2 (decide_eq_true (by omega))
          walk_at "ev"
          refine ite2 (fun c4 => ?_) (fun c4 => ?_)
          · have c5 : j % 2 = 1 := by
              have := V.int.inj (of_decide_eq_true c4)
              omega
            walk_at "ev"
            refine fin _ ?_
            unfold swp
            rw [if_pos (.inr c5)]
            omega
          · have c5 : ¬ j % 2 = 1 := fun z => c4 (decide_eq_true (congrArg V.int (by omega)))
            walk_at "ev"
            refine fin _ ?_
            unfold swp
            rw [if_neg (by omega)]
      intro H3 hP
      obtain ⟨sm3, hD3⟩ := hP.un
      rw [List.length_map, List.length_range] at hD3
      have nD : H D = none := by
        cases z : H D with
        | none => rfl
        | some o =>
          have z2 := k02 _ _ (hb2.ne hD) z
          rw [hD] at z2
          cases z2
      exact q D _ H3 (swp_p c) (by simp) nD (k02.trans (keepS sm3)) ((hb2.same sm3).mono (by omega)) hD3
    walk_at "ev"
    w_cond _3
    have n3b := hb2.ne hl3
    have n13 : l1 ≠ l3 := ne_of_none h12 hl3
    have f3 : H l3 = none := by
      cases z : H l3 with
      | none => rfl
      | some o =>
        have z2 := k02 _ _ n3b z
        rw [hl3] at z2
        cases z2
    walk_at "ev"
    refine for_range (lo := 0) (n := _) (fun i σ H' => Hold (∃ (fo re : List Nat) (s5 : Option V), σ = [some (.ref b), some (.int c), some (.ref l1), some (.int r2), some (.ref l3), s5, none] ∧ fo.length = i ∧ (fo ++ re).Perm (List.range c) ∧ Keep b H H' ∧ BoxAt H' b (n + 1 + (i : Int)) ∧ H' l1 = some (.lst (re.map vN)) ∧ H' l3 = some (.lst (fo.map vN)))) (.mk ⟨[], List.range c, _, rfl, rfl, List.Perm.refl _, k02.trans (keepS sm3), (hb2.same sm3).mono (by omega), sm3 _ _ h12, hq3⟩) ?_ ?_
    · intro i σ H4 hi hP
      obtain ⟨fo, re, s5, rfl, hfl, hper, k4, hb4, h14, h34⟩ := hP.un
      have hic : i < c := by omega
      have hrl : re.length = c - i := by
        have := hper.length_eq
        rw [List.length_append, List.length_range] at this
        omega
      have ty4 : tyV K "list" (.ref l3) H4 := .inl ⟨rfl, _, SqL.of h34⟩
      have ty4' : tyV K "list" (.ref l1) H4 := .inl ⟨rfl, _, SqL.of h14⟩
      have hL4 := SqL.of (K := K) h14
      have hl4 : ((re.map vN).length : Int) = ((c - i : Nat) : Int) := by rw [List.length_map, hrl]
      walk_at "ev"
      intro r H5 r0 r1 k5 hb5
      rw [hl4] at r1
      have h15 := k5 _ _ n1b h14
      have h35 := k5 _ _ n3b h34
      obtain ⟨x, hx⟩ : ∃ x, re[r.toNat]? = some x := ⟨_, List.getElem?_eq_getElem (by omega)⟩
      have hix : seqIndex? r (re.map vN).length = some r.toNat := by
        rw [List.length_map]
        exact seqIndex_of r0 (by omega)
      have hat : (re.map vN)[r.toNat]? = some (vN x) := by
        rw [List.getElem?_map, hx]
        rfl
      have h36 : upd H5 l1 (.lst ((re.map vN).eraseIdx r.toNat)) l3 = some (.lst (fo.map vN)) := by
        rw [upd_ne n13.symm]
        exact h35
      have zf : (fo.map vN).length < sizeLine := szm (by rw [List.length_map]; omega)
      walk_at "ev"
      refine .mk ⟨fo ++ [x], re.eraseIdx r.toNat, _, rfl, by simp [hfl], ?_, keep_fresh (keep_fresh (k4.trans k5) hl1) f3, ((hb5.upd n1b).upd n3b).mono (by omega), ?_, ?_⟩
      · rw [List.append_assoc]
        refine List.Perm.trans ?_ hper
        exact List.Perm.append_left fo (er_perm re r.toNat x hx)
      · rw [upd_ne n13, upd_same, er_map]
      · rw [upd_same, List.map_append]
        rfl
    · intro σ H4 hP
      obtain ⟨fo, re, s5, rfl, hfl, hper, k4, hb4, h14, h34⟩ := hP.un
      have hre : re = [] := by
        have := hper.length_eq
        rw [List.length_append, List.length_range] at this
        exact List.eq_nil_of_length_eq_zero (by omega)
      rw [hre, List.append_nil] at hper
      obtain ⟨p1, p2⟩ := IsP.of_perm hper
      walk_at "ev"
      exact q l3 fo H4 p1 p2 f3 k4 (hb4.mono (by omega)) h34
end
local macro_rules | `(tactic| walk_at "ev1") => `(tactic| ((first | with_reducible show ClsV _ _ | with_reducible show Paired ClsV _ _); first | exact ClsV.own _ | exact ClsV.ty _ | exact .cons (.own _) (.cons (.own _) .nil) | exact .cons (.own _) (.cons (.own _) (.cons (.own _) .nil))))
abbrev s__law_put : Stmt := top 16
abbrev N__law_put : List Str := ["_law_row", "_law_seats", "_law_found", "_law_at", "_law_to"]
abbrev P__law_put : List Str := ["_law_row", "_law_seats"]
theorem sc__law_put : FnScope N__law_put P__law_put (defScope s__law_put) := ⟨rfl, rfl, rfl, by decide +kernel, rfl, by decide +kernel, by decide +kernel⟩
def spLPut (K : PySem.W.Frag) : Sp := fun vs H Q _ => ∃ (r a : Addr) (xs : List V) (t : List Nat), vs = [.ref r, .ref a] ∧ SqL K H r xs ∧ SqL K H a (t.map vN) ∧ IsP t ∧ t.length ≤ 1000 ∧ xs.length = t.length ∧ ∀ p ys H', PutOf t xs ys → H p = none → Same H H' → H' p = some (.lst ys) → Q (.ref p) H'
section
variable {P : Program} {w : World} {K : PySem.W.Frag} {mg : Str → Option Value} {base : Heap}
theorem ok_lput {f : Addr} {fd : FuncData} {k : Nat} (F : Fun K "_law_put" "_law_put" s__law_put f fd) (T : Blt mg) : FnOk P w K mg base CX0 (k + 1) f fd P__law_put (spLPut K) := by
  have nd := sc__law_put.nd
  refine F.ok sc__law_put (fun vs H Q E h => ?_) (fun cdv A outer s H vs Q E hr h => ?_)
  · obtain ⟨r, a, xs, t, rfl, _⟩ := h
    rfl
  · obtain ⟨r, a, xs, t, rfl, hr', ha, ht, hlen, hxl, q⟩ := h
    refine ⟨_, (pss_cons (ps_set (i := 2) nd rfl (Or.inl rfl) (pe_callTy call_list_of (by rfl) T.b_list (by decide +kernel) (pa_cons (pv 0) pa_nil)))
      (pss_cons (ps_for PassesOwn.never rfl (pi_enum (by rfl) T.b_enumerate (pa_cons (pv 1) pa_nil)) (pg_tup (by rfl) (pgs_cons (pg_name (i := 3) nd rfl (Or.inl rfl)) (pgs_cons (pg_name (i := 4) nd rfl (Or.inl rfl)) pgs_nil)))
      (pss_one (ps_asg (pe_ix (r := rIxL K) ix_list (pv 0) (pv 3) (fun _ _ => rfl)) (pg_sub (pv 2) (pv 4) set_list))))
      (pss_one (ps_ret (pv 2))))), ?_⟩
    have hrq : SqL K H r xs ∨ SqT K H r xs := .inl hr'
    walk_at "ev"
    w_cond _1
    have ha1 := sm1.seq ha
    walk_at "ev"
    refine for_enumL (K := K) (a := a) (xs := t.map vN) (fun i σ H' => Hold (∃ (ys : List V) (s3 s4 : Option V), σ = [some (.ref r), some (.ref a), some (.ref l1), s3, s4] ∧ Same H H' ∧ H' l1 = some (.lst ys) ∧ ys.length = t.length ∧ ∀ (j x : Nat), j < i → t[j]? = some x → ys[x]? = xs[j]?)) (.mk ⟨xs, none, none, rfl, sm1, hq1, hxl, fun j x hj => absurd hj (Nat.not_lt_zero j)⟩) ?_ ?_ ?_
    · intro i σ H3 hP
      obtain ⟨ys, s3, s4, rfl, sm3, hq3, hyl, hy⟩ := hP.un
      exact sm3.seq ha
    · intro i v T' σ H3 hv hP hT
      obtain ⟨ys, s3, s4, rfl, sm3, hq3, hyl, hy⟩ := hP.un
      rw [List.getElem?_map] at hv
      obtain ⟨x, hx, ev⟩ := Option.map_eq_some_iff.mp hv
      subst ev
      have hxl2 := ht.2 x (List.mem_of_getElem? hx)
      have hil : i < t.length := (List.getElem?_eq_some_iff.mp hx).1
      generalize hG : upd _ T' _ = H4
      obtain ⟨sm4, hq4⟩ := newO hG hT
      clear hG
      have hT4 : SqT K H4 T' [.int (i : Nat), .int (x : Nat)] := SqT.of hq4
      have h34 := sm4 _ _ hq3
      have hr4 := (sm3.trans sm4).seq hr'
      obtain ⟨e, he⟩ : ∃ e, xs[i]? = some e := ⟨_, List.getElem?_eq_getElem (by omega)⟩
      have hat : atI xs (i : Nat) = some e := at_of (j := i) rfl he
      have hix : ixN ys.length (x : Nat) = some x := ixn_of (by omega) rfl
      walk_at "ev"
      refine .mk ⟨ys.set x e, _, _, rfl, same_mut (sm3.trans sm4) hl1, upd_same, by rw [List.length_set]; exact hyl, fun j y hj hjy => ?_⟩
      by_cases c : j = i
      · subst c
        rw [hx] at hjy
        cases hjy
        rw [List.getElem?_set_self (by omega), he]
      · have nxy : x ≠ y := fun z => by
          subst z
          exact c (ht.inj hjy hx)
        rw [List.getElem?_set_ne nxy]
        exact hy j y (by omega) hjy
    · intro σ H3 hP
      obtain ⟨ys, s3, s4, rfl, sm3, hq3, hyl, hy⟩ := hP.un
      walk_at "ev"
      refine q l1 ys H3 ⟨hyl, fun j x hj => hy j x ?_ hj⟩ hl1 sm3 hq3
      rw [List.length_map]
      exact (List.getElem?_eq_some_iff.mp hj).1
end
abbrev s__law_refused : Stmt := top 17
abbrev N__law_refused : List Str := ["_law_row", "_law_seats", "_law_caught", "error", "_law_fine"]
abbrev P__law_refused : List Str := ["_law_row", "_law_seats"]
theorem sc__law_refused : FnScope N__law_refused P__law_refused (defScope s__law_refused) := ⟨rfl, rfl, rfl, by decide +kernel, rfl, by decide +kernel, by decide +kernel⟩
def spRefd (K : PySem.W.Frag) : Sp := fun vs H Q _ => ∃ (r a : Addr) (xs : List V) (t : List Nat), vs = [.ref r, .ref a] ∧ SqL K H r xs ∧ SqL K H a (t.map vN) ∧ IsP t ∧ t.length ≤ 1000 ∧ (xs.length = t.length → ∀ H', Same H H' → Q .non H') ∧ (xs.length ≠ t.length → ∀ H', Same H H' → Q (.int xs.length) H')
section
variable {P : Program} {w : World} {K : PySem.W.Frag} {mg : Str → Option Value} {base : Heap}
theorem ok_refd {f f1 fI C CO CS CT : Addr} {fd d1 : FuncData} {k : Nat} (F : Fun K "_law_refused" "_law_refused" s__law_refused f fd) (T : Blt mg) (D_put_in_order : Df K mg "put_in_order" s_put_in_order P_put_in_order f1 d1) (G_put_in_order : FnOk P w K mg base (L2.CX P w) 3 f1 d1 P_put_in_order (spPutL K C))
    (R : Ref K CT C fI) (M_BadLength : mg "BadLength" = some (.ref C)) (M_BadOrder : mg "BadOrder" = some (.ref CO)) (M_BadStep : mg "BadStep" = some (.ref CS)) (M_TurnError : mg "TurnError" = some (.ref CT)) (k1 : PySem.W.kitOne K (.ref C) (.ref C) = some true) (k2 : PySem.W.kitAny K (.ref C) [.ref CO, .ref CS] = some false) : FnOk P w K mg base CX0 (k + 4) f fd P__law_refused (spRefd K) := by
  have nd := sc__law_refused.nd
  refine F.ok sc__law_refused (fun vs H Q E h => ?_) (fun cdv A outer s H vs Q E hr h => ?_)
  · obtain ⟨r, a, xs, t, rfl, _⟩ := h
    rfl
  · obtain ⟨r, a, xs, t, rfl, hr', ha, ht, hlen, qy, qn⟩ := h
    refine ⟨_, (pss_cons (ps_set (i := 2) nd rfl (Or.inl rfl) (pe_non))
      (pss_cons (ps_try_keep (i := 3) (Wout := fun _ _ _ _ => False) rfl rfl rfl nd rfl rfl ⟨by rfl, by decide, Or.inl M_TurnError⟩ takes0 (fun W pn xe tk _ => (pss_one (ps_expr (pe_callS G_put_in_order (hr.mono (by omega)) (by rfl) D_put_in_order.g D_put_in_order.F.kp D_put_in_order.b (fun σ => passAt tk σ) (pa_cons (pv 0) (pa_cons (pv 1) pa_nil)))))) (fun a pn => (pss_one (ps_set (i := 2) nd rfl (Or.inl rfl) (pv 3)))))
      (pss_cons (ps_if (pt_cmpR op_isN (pv 2) (pe_non) (nomark _)) (pss_one (ps_ret (pe_non))) pss_nil)
      (pss_cons (ps_set (i := 4) nd rfl (Or.inl rfl) (pe_and (pe_callB (r := rIsX K) call_isX (by rfl) T.b_isinstance (by decide +kernel) (pa_cons (pv 2) (pa_cons (pe_glob (v := .ref _) (by rfl) M_BadLength rfl) pa_nil))) (pe_one (pe_callB (r := rIsX K) call_isX (by rfl) T.b_isinstance (by decide +kernel) (pa_cons (pv 2) (pa_cons (pe_bltn (v := .ty "ValueError") (by rfl) T.b_ValueError (by decide +kernel) rfl) pa_nil))))))
      (pss_one (ps_ret (pe_ifExp (PW.pt (pw_and (pt_val (pv 4)) (pw_and1 (pt_not (pt_val (pe_callB (r := rIsXT K) call_isXT (by rfl) T.b_isinstance (by decide +kernel) (pa_cons (pv 2) (pa_cons (pe_tup (pa_cons (pe_glob (v := .ref _) (by rfl) M_BadOrder rfl) (pa_cons (pe_glob (v := .ref _) (by rfl) M_BadStep rfl) pa_nil))) pa_nil)))))))) (pe_xw (pv 2)) (pe_str)))))))), ?_⟩
    walk_at "ev"
    refine ⟨fun c p ys H1 _ _ sm1 _ => ?_, fun c d H1 hw => ?_⟩
    · walk_at "ev"
      exact qy c _ sm1
    · refine ⟨true, R.em, fun _ => ⟨C, d, rfl, rfl, fun a ha => ?_⟩, fun z => nomatch z⟩
      have sm3 : Same H1 (upd H1 a (XOb C d a)) := same_new ha
      have hx3 : XAt (upd H1 a (XOb C d a)) a C [(("what" : Str), .int xs.length)] := ⟨d, upd_same, sm3 _ _ hw.2.2⟩
      have ek := R.ek
      have kv := R.kv
      have nw := R.ek.nw
      walk_at "ev"
      w_cond _4
      have hx4 := hx3.same sm4
      walk_at "ev"
      exact qn c _ (hw.2.1.trans (sm3.trans sm4))
end
/-! ### repr of lists and tuples in one another, whatever repr is under way around them -/
section
open PySem.Spec PyProof.Rows
/-- things with their addresses -/
inductive AT where
  | leaf (d : PyData)
  | lst (a : Addr) (l : List AT)
  | tup (a : Addr) (l : List AT)
mutual
inductive Ap (K : PySem.W.Frag) (H : Hp) : V → AT → Prop
  | non : Ap K H .non (.leaf .none)
  | bl (b : Bool) : Ap K H (.bl b) (.leaf (.bool b))
  | int (i : Int) : Ap K H (.int i) (.leaf (.int i))
  | str (x : Str) : Ap K H (.str x) (.leaf (.str x))
  | lst {a : Addr} {xs : List V} {l : List AT} : SqL K H a xs → ApAll K H xs l → Ap K H (.ref a) (.lst a l)
  | tup {a : Addr} {xs : List V} {l : List AT} : SqT K H a xs → ApAll K H xs l → Ap K H (.ref a) (.tup a l)
inductive ApAll (K : PySem.W.Frag) (H : Hp) : List V → List AT → Prop
  | nil : ApAll K H [] []
  | cons {v : V} {vs : List V} {t : AT} {l : List AT} : Ap K H v t → ApAll K H vs l → ApAll K H (v :: vs) (t :: l)
end
/-- list.__repr__'s loop over this very list is under way -/
def loopF (self : Value) : Code × Pos → Bool := fun
  | (.builtin "list.__repr__.loop" ⟨v :: _, _⟩, _) => Builtin.List.listSameRef v self
  | _ => false
theorem loopF_pos (self : Value) (c : Code) (p : Pos) : loopF self (c, p) = loopF self (c, default) := by
  unfold loopF
  split
  · next v r k q heq =>
    cases heq
    rfl
  · next h =>
    split
    · next v r k q heq =>
      cases heq
      exact absurd rfl (h v r k p)
    · rfl
theorem loopF_off (self : Value) (c : Code) (p : Pos) (h : c.isGuard = false) : loopF self (c, p) = false := by
  unfold loopF
  split
  · next v r k q heq =>
    cases heq
    simp [Code.isGuard, guardIds] at h
  · rfl
def blkL (g : List Code) (b : Addr) : Bool := g.any fun c => loopF (.ref b) (c, default)
def blkT (g : List Code) (b : Addr) : Bool := g.any fun c => tupGuardF (.ref b) (c, default)
mutual
def AT.data : AT → PyData
  | .leaf d => d
  | .lst _ l => .list (AT.dataAll l)
  | .tup _ l => .tuple (AT.dataAll l)
def AT.dataAll : List AT → List PyData
  | [] => []
  | t :: l => AT.data t :: AT.dataAll l
end
mutual
def AT.txt (g : List Code) : AT → Str
  | .leaf d => d.shown
  | .lst _ [] => "[]"
  | .lst a (t :: l) => if blkL g a then "[...]" else listText (AT.txt g t :: AT.txtAll g l)
  | .tup a l => if blkT g a then "(...)" else tupleText (AT.txtAll g l)
def AT.txtAll (g : List Code) : List AT → List Str
  | [] => []
  | t :: l => AT.txt g t :: AT.txtAll g l
end
/-! how long it may come to be -/
mutual
def AT.wid : AT → Nat
  | .leaf d => d.shown.length
  | .lst _ l => 6 + AT.widAll l
  | .tup _ l => 6 + AT.widAll l
def AT.widAll : List AT → Nat
  | [] => 0
  | t :: l => AT.wid t + 2 + AT.widAll l
end
theorem txtAll_sum (g : List Code) : ∀ (l : List AT), (∀ t ∈ l, (AT.txt g t).length ≤ AT.wid t) → ((AT.txtAll g l).map (·.length)).sum + 2 * (AT.txtAll g l).length ≤ AT.widAll l
  | [], _ => by simp [AT.txtAll, AT.widAll]
  | t :: l, h => by
    have h1 := h t List.mem_cons_self
    have h2 := txtAll_sum g l fun u hu => h u (List.mem_cons_of_mem _ hu)
    simp only [AT.txtAll, AT.widAll, List.map_cons, List.sum_cons, List.length_cons]
    omega
mutual
theorem txt_wid (g : List Code) : ∀ t : AT, (AT.txt g t).length ≤ AT.wid t
  | .leaf d => by rw [AT.txt, AT.wid]; exact Nat.le_refl _
  | .lst a [] => by
    rw [AT.txt, AT.wid]
    have : (("[]" : String) : Str).length = 2 := rfl
    omega
  | .lst a (t :: l) => by
    rw [AT.txt, AT.wid]
    split
    · have : (("[...]" : String) : Str).length = 5 := rfl
      omega
    · have h := listText_len_le (AT.txt g t :: AT.txtAll g l)
      have h2 := txtAll_sum g (t :: l) (txt_widAll g (t :: l))
      rw [AT.txtAll] at h2
      omega
  | .tup a l => by
    rw [AT.txt, AT.wid]
    split
    · have : (("(...)" : String) : Str).length = 5 := rfl
      omega
    · have h := tupleText_len_le (AT.txtAll g l)
      have h2 := txtAll_sum g l (txt_widAll g l)
      omega
theorem txt_widAll (g : List Code) : ∀ l : List AT, ∀ t ∈ l, (AT.txt g t).length ≤ AT.wid t
  | [], _, h => nomatch h
  | u :: l, t, h => by
    rcases List.mem_cons.mp h with e | h
    · rw [e]
      exact txt_wid g u
    · exact txt_widAll g l t h
end
def Agr (g0 g : List Code) (as : List Addr) : Prop := ∀ b ∈ as, blkL g b = blkL g0 b ∧ blkT g b = blkT g0 b
theorem Agr.refl (g : List Code) (as : List Addr) : Agr g g as := fun _ _ => ⟨rfl, rfl⟩
theorem ref_beq {a b : Addr} (n : a ≠ b) : (Value.ref a == Value.ref b) = false := beq_eq_false_iff_ne.mpr fun e => n (Value.ref.inj e)
theorem Agr.cons {g0 g : List Code} {as : List Addr} {a : Addr} {id : String} {rest : List Value} {kw : List (Str × Value)} (h : Agr g0 g as) (n : a ∉ as) : Agr g0 (.builtin id ⟨.ref a :: rest, kw⟩ :: g) as := by
  intro b hb
  have ne : a ≠ b := fun e => n (e ▸ hb)
  obtain ⟨h1, h2⟩ := h b hb
  constructor
  · rw [← h1]
    unfold blkL
    rw [List.any_cons]
    have : loopF (.ref b) (Code.builtin id ⟨.ref a :: rest, kw⟩, default) = false := by
      unfold loopF
      split
      · next v r k q heq =>
        cases heq
        exact listSameRef_of_ne fun e => ne (Value.ref.inj e)
      · rfl
    rw [this, Bool.false_or]
  · rw [← h2]
    unfold blkT
    rw [List.any_cons]
    have : tupGuardF (.ref b) (Code.builtin id ⟨.ref a :: rest, kw⟩, default) = false := by
      simp only [tupGuardF, ref_beq ne, Bool.false_and]
    rw [this, Bool.false_or]
end
section
open PySem.Spec PyProof.Rows
open Sem (wp)
open Builtin Builtin.List
variable {prog : Program} {w : World} {g0 : List Code}
def ReprD (prog : Program) (w : World) (g0 : List Code) (as : List Addr) (h0 : Heap) (d : Nat) (x : Value) (t : Str) : Prop :=
  ∀ (n : Nat), n + t.length ≤ sizeLine → ∀ (A : Around) (g : List Code) (E : Value → Shared → Prop) (s : Shared) (Q : Str → Shared → Prop), A.guards = some g → Agr g0 g as → A.units + d < cLine →
    (∀ b o, h0.get? b = some o → s.heap.get? b = some o) → (∀ h' tk, (∀ b o, s.heap.get? b = some o → h'.get? b = some o) → Q t { s with heap := h', toks := tk }) → wpAny (model prog w) A (pyReprUnder n x) Q E s
theorem ReprD.leaf {x : Value} {t : Str} (h : ReprIs prog w x t) (as : List Addr) (h0 : Heap) (d : Nat) : ReprD prog w g0 as h0 d x t :=
  fun n hn A _ E s Q _ _ _ _ q => h n hn A E s Q fun tk => q s.heap tk fun _ _ e => e
theorem ReprD.wide {as bs : List Addr} {h0 : Heap} {d e : Nat} {x : Value} {t : Str} (h : ReprD prog w g0 as h0 d x t) (i : ∀ b ∈ as, b ∈ bs) (l : d ≤ e) : ReprD prog w g0 bs h0 e x t :=
  fun n hn A g E s Q hg ha hu hk q => h n hn A g E s Q hg (fun b hb => ha b (i b hb)) (by omega) hk q
/-- the loop of list.__repr__ -/
theorem loopD {A : Around} {R : Result → Shared → Prop} {a P : Addr} (hne : a ≠ P) {items : Array Value} {ts : List Str} {as : List Addr} {h0 : Heap} {d n : Nat} {g : List Code} (hg : A.guards = some g) (hag : Agr g0 g as)
    (hu : A.units + (d + 1) < cLine) (hna : a ∉ as) (hPf : h0.get? P = none) (hlen : ts.length = items.size)
    (hT : ∀ (i : Nat) (x : Value), items[i]? = some x → ∃ t, ts[i]? = some t ∧ ReprD prog w g0 as h0 d x t) (hsz : n + (listText ts).length ≤ sizeLine) :
    ∀ (k i : Nat) (s : Shared) (oa : Obj) (na : Nat) (acc : Array Value) (c : Nat) (done : List (Str × Tok)), items.size - i = k → i ≤ items.size → (∀ b o, h0.get? b = some o → s.heap.get? b = some o) →
      s.heap.get? a = some oa → oa.data = .seq items na → s.heap.get? P = some { cls := .type "list", dict := none, data := .seq acc c, slots := #[] } → acc.toList = strValues done → done.map (·.1) = ts.take i →
      (∀ h' u tk, (∀ b o, b ≠ P → s.heap.get? b = some o → h'.get? b = some o) → R (.ok (.ret (.str (listText ts) u))) { s with heap := h', toks := tk }) →
      codeAny (model prog w) A (.builtin "list.__repr__.loop" ⟨[.ref a, rawInt i, .ref P, rawInt ((n + piled (ts.take i) : Nat) : Int)], []⟩) R s := by
  have hX : (listText ts).length = (textFrom 0 "[" ts).length + 1 := by
    show ((textFrom 0 "[" ts) ++ ("]" : Str)).length = _
    rw [strLen_append]
    rfl
  obtain ⟨hL1, hL2, _⟩ := textFrom_len ts 0 "["
  rw [if_neg (Nat.lt_irrefl 0)] at hL1
  have hsz1 : items.size ≤ sizeLine := by omega
  have hp3 := piled_le_listText ts
  intro k
  induction k with
  | zero =>
    intro i s oa na acc c done hk hi hk0 ha hda hP hacc hdone hR
    have hin : i = items.size := by omega
    refine codeAny_builtin F.entry_list_repr_loop ?_
    show wpAny _ _ («list.__repr__.loop» ⟨[.ref a, .int i 0, .ref P, .int ((n + piled (ts.take i) : Nat) : Int) 0], []⟩) _ _ s
    rw [repr_loop_tree]
    refine wpAny_bind (wpAny_listItems ha hda ?_)
    have e0 : items[(i : Int).toNat]? = none := by simp [hin]
    simp only [e0]
    unfold reprEnd
    refine wpAny_bind (wpAny_listItems hP rfl ?_)
    rw [hacc, repr_fold]
    refine wpAny_bind (wpAny_pure ?_)
    have e1 : done.map (·.1) = ts := by rw [hdone, hin, ← hlen, List.take_length]
    rw [e1]
    exact wpAny_bind (wpAny_mkStr (wpAny_pure (hR s.heap _ _ fun _ _ _ e => e)) (show (listText ts).length ≤ sizeLine by omega))
  | succ k ih =>
    intro i s oa na acc c done hk hi hk0 ha hda hP hacc hdone hR
    have hlt : i < items.size := by omega
    obtain ⟨t, ht, hrep⟩ := hT i items[i] (by simp [hlt])
    have hp1 := piled_take_succ ht
    have hp2 := piled_take_le ts (i + 1)
    have ht2 := hL2 t (List.mem_of_getElem? ht)
    refine codeAny_builtin F.entry_list_repr_loop ?_
    show wpAny _ _ («list.__repr__.loop» ⟨[.ref a, .int i 0, .ref P, .int ((n + piled (ts.take i) : Nat) : Int) 0], []⟩) _ _ s
    rw [repr_loop_tree]
    refine wpAny_bind (wpAny_listItems ha hda ?_)
    have e0 : items[(i : Int).toNat]? = some items[i] := by simp [hlt]
    simp only [e0]
    rw [Int.toNat_natCast]
    refine wpAny_bind (wpAny_holding (hrep (n + piled (ts.take i) + 1) (by omega) _ _ _ _ _ (guards_under_guard (isGuard_list_loop _) hg) (hag.cons (a := a) hna) (by rw [units_under_list_loop]; omega) hk0 fun h' tk hkp => ?_))
    refine wpAny_bind (wpAny_mkStr ?_ (by omega))
    refine wpAny_bind ?_
    show wpAny _ _ (updateSeq P _) _ _ _
    have hasz : acc.size ≤ sizeLine := by
      have e1 : acc.toList.length = acc.size := by simp
      have e2 : (strValues done).length = (done.map (·.1)).length := by simp [strValues]
      rw [hdone, List.length_take] at e2
      rw [hacc] at e1
      omega
    refine wpAny_updateSeq (hkp _ _ hP) rfl (wpAny_pure ⟨F.quiet_list_repr_loop _, ?_⟩) hasz
    have f1 : ((i : Int) + 1) = ((i + 1 : Nat) : Int) := by omega
    have f2 : n + piled (ts.take i) + (t.length + 2) = n + piled (ts.take (i + 1)) := by omega
    rw [f1, f2]
    have out : ∀ {b : Addr}, b ≠ P → P ≠ b := fun z e => z e.symm
    refine ih (i + 1) _ oa na (acc.push (.str t tk)) _ (done ++ [(t, tk)]) (by omega) hlt (fun b o e => (Heap.get?_update_other _ _ (out fun z => by rw [z, hPf] at e; cases e)).trans (hkp _ _ (hk0 _ _ e)))
      ((Heap.get?_update_other _ _ (out hne)).trans (hkp _ _ ha)) hda (Heap.get?_update_self _ (hkp _ _ hP) rfl) (by simp [hacc, strValues]) (by simp [List.take_add_one, ht, hdone]) fun h'' u tk' hh => ?_
    exact hR h'' u tk' fun b o hb e => hh b o hb ((Heap.get?_update_other _ _ (out hb)).trans (hkp _ _ e))
end
section
open PySem.Spec PyProof.Rows
open Sem (wp)
open Builtin Builtin.List
variable {prog : Program} {w : World} {g0 : List Code}
abbrev finE (prog : Program) (w : World) (A : Around) (R : Result → Shared → Prop) : Fin → Shared → Prop := fun f s => match f with
  | .done v => R (.ok v) s
  | .again c => c.quiet = true ∧ codeAny (model prog w) A c R s
/-- the list is being shown already -/
theorem list_way {A : Around} {g : List Code} {c : Code} {a : Addr} {o : Obj} {x : Value} {l : List Value} {m n : Nat} {s : Shared} {Q : Fin → Shared → Prop} {E : Value → Shared → Prop} (hg : A.guards = some g) (hb : blkL g a = true)
    (ha : s.heap.get? a = some o) (hd : o.data = .seq (x :: l).toArray m) (h : ∀ u tk, Q (.done (.ret (.str "[...]" u))) { s with toks := tk }) : wpOwn (model prog w) A c (listReprAt n ⟨[.ref a], []⟩) Q E s := by
  intro Γ p hc hΓ
  have k : wpAny (model prog w) (A.under c) (do rule "list.__repr__.in-itself"; retStr "[...]") Q E s :=
    wpAny_bind (wpAny_rule (wpAny_bind (wpAny_mkStr (wpAny_pure (h _ _)) (by decide +kernel))))
  have k1 := k Γ p (hc ▸ hΓ.in)
  unfold listReprAt
  simp [slotArgs, listItems, seqItems?, Sem.wp_load_of (h := ha), hd, stack]
  show wp _ Γ (if (Γ.below.any (loopF (.ref a))) = true then _ else _) _ _ p s
  rw [if_pos]
  · exact k1
  · rw [any_eq_guards (loopF_off _) (loopF_pos _), hΓ.2.2.2.1 g hg]
    exact hb
theorem list_no {g : List Code} {a : Addr} (h : blkL g a = false) (v : Value) (rest : List Value) (kw : List (Str × Value)) (hm : Code.builtin "list.__repr__.loop" ⟨v :: rest, kw⟩ ∈ g) : listSameRef v (.ref a) = false := by
  have := List.any_eq_false.mp h _ hm
  simpa [loopF] using this
theorem list_at {as : List Addr} {h0 : Heap} {d : Nat} {a : Addr} {oa : Obj} {x : Value} {l : List Value} {na : Nat} {ts : List Str} (ha : h0.get? a = some oa) (hda : oa.data = .seq (x :: l).toArray na) (hna : a ∉ as)
    (hlen : ts.length = (x :: l).toArray.size) (hT : ∀ (i : Nat) (y : Value), (x :: l).toArray[i]? = some y → ∃ t, ts[i]? = some t ∧ ReprD prog w g0 as h0 d y t) {A : Around} {g : List Code} {s : Shared} {R : Result → Shared → Prop} {n : Nat} {id : String} {rest : List Value}
    (hpl : plainId id = true) (hg : A.guards = some g) (hag : Agr g0 g (a :: as)) (hu : A.units + (d + 1) < cLine) (hk0 : ∀ b o, h0.get? b = some o → s.heap.get? b = some o)
    (hR : ∀ h' u tk, (∀ b o, s.heap.get? b = some o → h'.get? b = some o) → R (.ok (.ret (.str (if blkL g0 a then "[...]" else listText ts) u))) { s with heap := h', toks := tk })
    (hsz : blkL g0 a = false → n + (listText ts).length ≤ sizeLine) : wpOwn (model prog w) A (.builtin id ⟨.ref a :: rest, []⟩) (listReprAt n ⟨[.ref a], []⟩) (finE prog w A R) (fun e s' => R (.error e) s') s := by
  have e := (hag a List.mem_cons_self).1
  cases hB : blkL g0 a with
  | true =>
    rw [hB] at e
    simp only [hB] at hR
    exact list_way hg e (hk0 _ _ ha) hda fun u tk => hR s.heap u tk fun _ _ z => z
  | false =>
    rw [hB] at e
    simp only [hB] at hR
    have hPf : h0.get? s.heap.objs.size = none := by
      cases q : h0.get? s.heap.objs.size with
      | none => rfl
      | some o => exact absurd (Heap.lt_size (hk0 _ _ q)) (Nat.lt_irrefl _)
    refine wpOwn_of_wpAny ?_
    rw [Around.under_plainId hpl]
    refine wpAny_list_repr_head (A := A.in1) hg (list_no e) (hk0 _ _ ha) hda ?_
    refine wpAny_bind (m := newList []) (wpAny_newObj_type (wpAny_pure ⟨F.quiet_list_repr_loop _, ?_⟩))
    refine loopD (P := s.heap.objs.size) (g0 := g0) (Nat.ne_of_lt (Heap.lt_size (hk0 _ _ ha))) hg (fun b hb => hag b (List.mem_cons_of_mem _ hb)) hu hna hPf hlen hT (hsz hB) _ 0 _ oa na #[] _ [] rfl (Nat.zero_le _)
      (fun b o z => Heap.get?_push_of_some _ (hk0 _ _ z)) (Heap.get?_push_of_some _ (hk0 _ _ ha)) hda (Heap.get?_push_size _ rfl) rfl (by simp) fun h' u tk hk => ?_
    exact hR h' u tk fun b o z => hk b o (Nat.ne_of_lt (Heap.lt_size z)) (Heap.get?_push_of_some _ z)
inductive ReprDs (prog : Program) (w : World) (g0 : List Code) (as : List Addr) (h0 : Heap) (d : Nat) : List Value → List Str → Prop
  | nil : ReprDs prog w g0 as h0 d [] []
  | cons {x : Value} {t : Str} {l : List Value} {ts : List Str} : ReprD prog w g0 as h0 d x t → ReprDs prog w g0 as h0 d l ts → ReprDs prog w g0 as h0 d (x :: l) (t :: ts)
theorem ReprDs.len {as : List Addr} {h0 : Heap} {d : Nat} : ∀ {l : List Value} {ts : List Str}, ReprDs prog w g0 as h0 d l ts → ts.length = l.length
  | _, _, .nil => rfl
  | _, _, .cons _ h => by rw [List.length_cons, List.length_cons, h.len]
theorem ReprDs.item {as : List Addr} {h0 : Heap} {d : Nat} : ∀ {l : List Value} {ts : List Str}, ReprDs prog w g0 as h0 d l ts → ∀ (i : Nat) (y : Value), l[i]? = some y → ∃ t, ts[i]? = some t ∧ ReprD prog w g0 as h0 d y t
  | _, _, .nil, i, y, e => by simp at e
  | _, _, .cons hx _, 0, y, e => by
    cases Option.some.inj e
    exact ⟨_, rfl, hx⟩
  | _, _, .cons _ hl, i + 1, y, e => hl.item i y e
theorem ReprDs.wide {as bs : List Addr} {h0 : Heap} {d e : Nat} (i : ∀ b ∈ as, b ∈ bs) (l : d ≤ e) : ∀ {vs : List Value} {ts : List Str}, ReprDs prog w g0 as h0 d vs ts → ReprDs prog w g0 bs h0 e vs ts
  | _, _, .nil => .nil
  | _, _, .cons hx hl => .cons (hx.wide i l) (hl.wide i l)
theorem tup_fold {A : Around} {E : Value → Shared → Prop} {as : List Addr} {h0 : Heap} {d : Nat} {g : List Code} (hg : A.guards = some g) (hag : Agr g0 g as) (hu : A.units + d < cLine) :
    ∀ (l : List Value) (ts : List Str) (acc : Array Str) (n : Nat) (s : Shared) (Q : (Array Str × Nat) → Shared → Prop), ReprDs prog w g0 as h0 d l ts → n + piled ts ≤ sizeLine → (∀ b o, h0.get? b = some o → s.heap.get? b = some o) →
      (∀ h' tk, (∀ b o, s.heap.get? b = some o → h'.get? b = some o) → Q ⟨acc ++ ts.toArray, n + piled ts⟩ { s with heap := h', toks := tk }) → wpAny (model prog w) A (forIn l (⟨acc, n⟩ : (Array Str × Nat)) tupBody) Q E s := by
  intro l
  induction l with
  | nil =>
    intro ts acc n s Q hT _ _ q
    cases hT
    have q0 := q s.heap s.toks fun _ _ e => e
    simp only [List.forIn_nil]
    exact wpAny_pure (by simpa [piled] using q0)
  | cons x l ih =>
    intro ts acc n s Q hT hn hk0 q
    cases hT with
    | cons hx hl =>
      rename_i t ts'
      rw [piled_cons] at hn
      rw [List.forIn_cons]
      refine wpAny_bind (wpAny_bind (hx (n + 1) (by omega) _ _ _ _ _ hg hag hu hk0 fun h' tk hk1 => wpAny_pure ?_))
      refine ih ts' (acc.push t) (n + (t.length + 2)) _ Q hl (by omega) (fun b o z => hk1 _ _ (hk0 _ _ z)) fun h'' tk' hk2 => ?_
      have q1 := q h'' tk' fun b o z => hk2 _ _ (hk1 _ _ z)
      rw [show n + piled (t :: ts') = n + (t.length + 2) + piled ts' by rw [piled_cons]; omega] at q1
      simpa using q1
theorem tup_at {as : List Addr} {h0 : Heap} {d : Nat} {a : Addr} {o : Obj} {items : Array Value} {na : Nat} {ts : List Str} (ha : h0.get? a = some o) (hd : o.data = .seq items na) (hna : a ∉ as) (hT : ReprDs prog w g0 as h0 d items.toList ts)
    {A : Around} {g : List Code} {s : Shared} {R : Result → Shared → Prop} {n : Nat} {id : String} {rest : List Value} (hcg : (Code.builtin id ⟨.ref a :: rest, []⟩).isGuard = true) (hcu : (A.under (.builtin id ⟨.ref a :: rest, []⟩)).units = A.units + 1)
    (hg : A.guards = some g) (hag : Agr g0 g (a :: as)) (hu : A.units + (d + 1) < cLine) (hk0 : ∀ b o, h0.get? b = some o → s.heap.get? b = some o)
    (hR : ∀ h' u tk, (∀ b o, s.heap.get? b = some o → h'.get? b = some o) → R (.ok (.ret (.str (if blkT g0 a then "(...)" else tupleText ts) u))) { s with heap := h', toks := tk })
    (hsz : blkT g0 a = false → n + (tupleText ts).length ≤ sizeLine) : wpOwn (model prog w) A (.builtin id ⟨.ref a :: rest, []⟩) (tupleReprAt n ⟨[.ref a], []⟩) (finE prog w A R) (fun e s' => R (.error e) s') s := by
  have e := (hag a List.mem_cons_self).2
  unfold blkT at e
  have hlen : ts.length = items.size := by simpa using hT.len
  have hp := piled_le_tupleText ts
  rw [tuple_repr_tree, tupleReprUnderWay_eq]
  refine wpOwn_bind (wpOwn_stackTailAny hg (tupGuardF_off _) (tupGuardF_pos _) ?_)
  rw [e]
  show wpOwn _ _ _ (if blkT g0 a = true then _ else _) _ _ _
  refine wpOwn_of_wpAny ?_
  cases hB : blkT g0 a with
  | true =>
    simp only [hB] at hR
    refine PySem.W.KFB.if_so rfl ?_
    exact wpAny_bind (wpAny_rule (wpAny_bind (wpAny_mkStr (wpAny_pure (hR s.heap _ _ fun _ _ z => z)) (by decide +kernel))))
  | false =>
    simp only [hB] at hR
    have hz := hsz hB
    refine PySem.W.KFB.if_not rfl ?_
    unfold tupleReprRest Builtin.Tuple.tupleItemsOf
    refine wpAny_bind (wpAny_bind (wpAny_seqItems (hk0 _ _ ha) hd (wpAny_pure ?_)))
    rw [← Array.forIn_toList]
    refine wpAny_bind (tup_fold (g0 := g0) (guards_under_guard hcg hg) (Agr.cons (a := a) (fun b hb => hag b (List.mem_cons_of_mem _ hb)) hna) (by rw [hcu]; omega) _ ts _ _ _ _ hT (by omega) hk0 fun h' tk hk1 => ?_)
    refine wpAny_bind (wpAny_mkStr (wpAny_pure ?_) (by simpa [tupleText, hlen] using (show (tupleText ts).length ≤ sizeLine by omega)))
    have q := hR h' tk (tk + 1) hk1
    simpa [tupleText, hlen] using q
end
section
open PySem.Spec PyProof.Rows
open Sem (wp)
open Builtin Builtin.List
variable {prog : Program} {w : World} {g0 : List Code}
theorem ReprD.lst {as : List Addr} {h0 : Heap} {d : Nat} {a : Addr} {oa : Obj} {x : Value} {l : List Value} {na : Nat} {ts : List Str} (ha : h0.get? a = some oa) (hc : oa.cls = .type "list") (hda : oa.data = .seq (x :: l).toArray na) (hna : a ∉ as)
    (hT : ReprDs prog w g0 as h0 d (x :: l) ts) : ReprD prog w g0 (a :: as) h0 (d + 1) (.ref a) (if blkL g0 a then "[...]" else listText ts) := by
  intro n hn A g E s Q hg hag hu hk q
  have hl : ts.length = (x :: l).toArray.size := by simpa using hT.len
  refine wpAny_pyReprUnder_ref (by omega) (wpAny_pyReprObjUnder_twin (twin := "list.__repr__.under") ⟨oa, hk _ _ ha, hc⟩ F.slot_list_repr.toG rfl (by omega) ?_)
  refine call_twin_own (Code.quiet_builtin _ (by decide +kernel)) F.entry_list_repr_under F.check_list_repr_under ⟨oa, hk _ _ ha, hc⟩ F.slot_list_repr.toG (F.args_list_repr_1 _) ?_
  refine list_at (R := callEnd _ E) ha hda hna hl (fun i y e => hT.item i y (by simpa using e)) F.plain_list_repr_under hg hag hu hk (fun h' u tk hk1 => ⟨⟨_, _, rfl⟩, _, _, rfl, q h' tk hk1⟩) fun hB => ?_
  rw [hB] at hn
  exact hn
theorem ReprD.bare {as : List Addr} {h0 : Heap} {d : Nat} {a : Addr} {oa : Obj} {na : Nat} (ha : h0.get? a = some oa) (hc : oa.cls = .type "list") (hda : oa.data = .seq #[] na) : ReprD prog w g0 as h0 d (.ref a) "[]" := by
  intro n hn A g E s Q _ _ hu hk q
  exact wpAny_pyReprUnder_ref (by omega) (wpAny_pyReprObjUnder_list_empty ⟨oa, hk _ _ ha, hc⟩ (by omega) (hk _ _ ha) hda ⟨_, _, rfl, q s.heap _ fun _ _ e => e⟩)
theorem ReprD.tup {as : List Addr} {h0 : Heap} {d : Nat} {a : Addr} {oa : Obj} {items : Array Value} {na : Nat} {ts : List Str} (ha : h0.get? a = some oa) (hc : oa.cls = .type "tuple") (hda : oa.data = .seq items na) (hna : a ∉ as)
    (hT : ReprDs prog w g0 as h0 d items.toList ts) : ReprD prog w g0 (a :: as) h0 (d + 1) (.ref a) (if blkT g0 a then "(...)" else tupleText ts) := by
  intro n hn A g E s Q hg hag hu hk q
  refine wpAny_pyReprUnder_ref (by omega) (wpAny_pyReprObjUnder_twin (twin := "tuple.__repr__.under") ⟨oa, hk _ _ ha, hc⟩ F.slot_tuple_repr rfl (by omega) ?_)
  refine call_twin_own (F.quiet_tuple_repr_under _) F.entry_tuple_repr_under F.check_tuple_repr_under ⟨oa, hk _ _ ha, hc⟩ F.slot_tuple_repr (F.args_tuple_repr_1 _) ?_
  refine tup_at (R := callEnd _ E) ha hda hna hT (isGuard_tuple_repr_under _) (units_under_tuple_repr_under _ _) hg hag hu hk (fun h' u tk hk1 => ⟨⟨_, _, rfl⟩, _, _, rfl, q h' tk hk1⟩) fun hB => ?_
  rw [hB] at hn
  exact hn
mutual
theorem Ap.dp {K : PySem.W.Frag} {H : Hp} : ∀ {v : V} {t : AT}, Ap K H v t → Dp K H v t.data
  | _, _, .non => .non
  | _, _, .bl b => .bl b
  | _, _, .int i => .int i
  | _, _, .str x => .str x
  | _, _, .lst h a => by rw [AT.data]; exact .lst h a.dp
  | _, _, .tup h a => by rw [AT.data]; exact .tup h a.dp
theorem ApAll.dp {K : PySem.W.Frag} {H : Hp} : ∀ {vs : List V} {l : List AT}, ApAll K H vs l → DpAll K H vs (AT.dataAll l)
  | _, _, .nil => by rw [AT.dataAll]; exact .nil
  | _, _, .cons h a => by rw [AT.dataAll]; exact .cons h.dp a.dp
end
mutual
theorem Ap.same {K : PySem.W.Frag} {H H' : Hp} (e : Same H H') : ∀ {v : V} {t : AT}, Ap K H v t → Ap K H' v t
  | _, _, .non => .non
  | _, _, .bl b => .bl b
  | _, _, .int i => .int i
  | _, _, .str x => .str x
  | _, _, .lst h a => .lst (e.seq h) (ApAll.same e a)
  | _, _, .tup h a => .tup (same_t e h) (ApAll.same e a)
theorem ApAll.same {K : PySem.W.Frag} {H H' : Hp} (e : Same H H') : ∀ {vs : List V} {l : List AT}, ApAll K H vs l → ApAll K H' vs l
  | _, _, .nil => .nil
  | _, _, .cons h a => .cons (Ap.same e h) (ApAll.same e a)
end
section
variable {X : Cx} {pins : List (Addr × Obj)} {σ : L2.St} {H : Hp} {s : Shared}
mutual
theorem repr_of (I : Inv X pins σ H s) : ∀ (t : AT) (v : V) (u : Value), Ap X.K H v t → RelV v u → t.data.showable = true → t.wid ≤ sizeLine → ∃ bs, ReadAtMost s.heap t.data.depth bs ∧ ReprD X.prog X.w g0 bs s.heap t.data.depth u (t.txt g0)
  | .leaf d, v, u, h, r, hs, hw => by
    refine ⟨[], (fun _ z => nomatch z), ?_⟩
    rw [AT.txt]
    rw [AT.wid] at hw
    cases h with
    | non =>
      cases r
      exact .leaf ReprIs.none _ _ _
    | bl b =>
      cases r
      exact .leaf (ReprIs.bool b) _ _ _
    | int i =>
      obtain ⟨k, rfl⟩ := r
      exact .leaf (ReprIs.int k (by simpa [AT.data, PyData.showable] using hs)) _ _ _
    | str x =>
      obtain ⟨k, rfl⟩ := r
      exact .leaf (ReprIs.str x k (by simpa only [PyData.shown] using hw)) _ _ _
  | .lst a [], v, u, h, r, hs, hw => by
    cases h with
    | lst hq ha =>
      cases ha
      cases r
      obtain ⟨its, rv, ⟨o, n, ho, hc, _, hd⟩, _⟩ := I.list hq
      cases rv
      rw [AT.txt]
      exact ⟨[], (fun _ z => nomatch z), ReprD.bare ho hc hd⟩
  | .lst a (t :: l), v, u, h, r, hs, hw => by
    obtain ⟨as, hR⟩ := Dp.reads I _ v u h.dp r
    cases h with
    | lst hq ha =>
      cases r
      obtain ⟨its, rv, ⟨o, n, ho, hc, _, hd⟩, _⟩ := I.list hq
      rw [AT.data, PyData.showable] at hs
      rw [AT.wid] at hw
      obtain ⟨bs, hb, hk⟩ := repr_ofAll I (t :: l) _ its ha rv hs (by omega)
      rw [AT.data] at hR
      have hna : a ∉ bs := not_mem_of_deeper hR (by simp only [PyData.depth]; omega) hb
      refine ⟨a :: bs, ?_, ?_⟩
      · rw [AT.data]
        exact ReadAtMost.cons hR (by simp only [PyData.depth]; omega) hb
      · rw [AT.txt, AT.data, PyData.depth]
        cases ha with
        | cons h1 h2 =>
          cases rv with
          | cons r1 r2 =>
            rw [AT.txtAll] at hk
            exact .lst ho hc hd hna hk
  | .tup a l, v, u, h, r, hs, hw => by
    obtain ⟨as, hR⟩ := Dp.reads I _ v u h.dp r
    cases h with
    | tup hq ha =>
      cases r
      obtain ⟨its, rv, ⟨o, ho, hc, n, hd⟩, _⟩ := I.tuple hq
      rw [AT.data, PyData.showable] at hs
      rw [AT.wid] at hw
      obtain ⟨bs, hb, hk⟩ := repr_ofAll I l _ its ha rv hs (by omega)
      rw [AT.data] at hR
      have hna : a ∉ bs := not_mem_of_deeper hR (by simp only [PyData.depth]; omega) hb
      refine ⟨a :: bs, ?_, ?_⟩
      · rw [AT.data]
        exact ReadAtMost.cons hR (by simp only [PyData.depth]; omega) hb
      · rw [AT.txt, AT.data, PyData.depth]
        exact .tup ho hc hd hna (by simpa using hk)
theorem repr_ofAll (I : Inv X pins σ H s) : ∀ (l : List AT) (vs : List V) (us : List Value), ApAll X.K H vs l → Vals vs us → PyData.showableAll (AT.dataAll l) = true → AT.widAll l ≤ sizeLine → ∃ bs, ReadAtMost s.heap (PyData.depthAll (AT.dataAll l)) bs ∧ ReprDs X.prog X.w g0 bs s.heap (PyData.depthAll (AT.dataAll l)) us (AT.txtAll g0 l)
  | [], _, _, h, r, _, _ => by
    cases h
    cases r
    exact ⟨[], (fun _ z => nomatch z), by rw [AT.txtAll]; exact .nil⟩
  | t :: l, _, _, h, r, hs, hw => by
    cases h with
    | cons h1 h2 =>
      cases r with
      | cons r1 r2 =>
        have hs' : t.data.showable = true ∧ PyData.showableAll (AT.dataAll l) = true := by simpa [AT.dataAll, PyData.showableAll] using hs
        rw [AT.widAll] at hw
        obtain ⟨b1, k1, m1⟩ := repr_of I t _ _ h1 r1 hs'.1 (by omega)
        obtain ⟨b2, k2, m2⟩ := repr_ofAll I l _ _ h2 r2 hs'.2 (by omega)
        rw [AT.dataAll, AT.txtAll, PyData.depthAll]
        exact ⟨b1 ++ b2, (k1.mono (Nat.le_max_left _ _)).append (k2.mono (Nat.le_max_right _ _)), .cons (m1.wide (fun b hb => List.mem_append_left _ hb) (Nat.le_max_left _ _)) (m2.wide (fun b hb => List.mem_append_right _ hb) (Nat.le_max_right _ _))⟩
end
end
end
section
open PySem.Spec PyProof.Rows
variable {X : Cx}
def gdX (X : Cx) (g : List Code) : Cx := { X with A := { X.A with guards := some g } }
theorem gd_inv {pins : List (Addr × Obj)} {σ : L2.St} {H : Hp} {s : Shared} {g : List Code} (I : Inv X pins σ H s) : Inv (gdX X g) pins σ H s :=
  ⟨⟨I.ok.mod, I.ok.kind, I.ok.glob, I.ok.blt, I.ok.above, I.ok.inj, I.ok.has, I.ok.cab, I.ok.hd, I.ok.frames, I.ok.stk, I.ok.exf, I.ok.bs, I.ok.bsz, I.ok.noex, I.ok.exfs, I.ok.funs, I.ok.frf⟩, I.os, I.bare, I.base, I.loc, I.cell, I.free, I.freeC, I.pin, I.hok, I.len⟩
theorem ungd_inv {pins : List (Addr × Obj)} {σ : L2.St} {H : Hp} {s : Shared} {g : List Code} (I : Inv (gdX X g) pins σ H s) : Inv X pins σ H s :=
  ⟨⟨I.ok.mod, I.ok.kind, I.ok.glob, I.ok.blt, I.ok.above, I.ok.inj, I.ok.has, I.ok.cab, I.ok.hd, I.ok.frames, I.ok.stk, I.ok.exf, I.ok.bs, I.ok.bsz, I.ok.noex, I.ok.exfs, I.ok.funs, I.ok.frf⟩, I.os, I.bare, I.base, I.loc, I.cell, I.free, I.freeC, I.pin, I.hok, I.len⟩
theorem gd_in {Γ : PySem.Ctx} {A : Around} (h : Γ.In A) : Γ.In { A with guards := some (Γ.code.guards ++ guardsOf Γ.below) } :=
  ⟨h.1, h.2.1, h.2.2.1, fun g hg => Option.some.inj hg, h.2.2.2.2⟩
theorem gd_room {k : Nat} {g : List Code} {A : Around} (h : Room k A) : Room k { A with guards := some g } := ⟨h.hd, h.dp, h.un⟩
/-- a block, for each list of what is being shown around it -/
theorem pss_gd {b : List Stmt} {t : List Code → TS} (h : ∀ g, PSs (gdX X g) b (t g)) : PSs X b (fun D σ H => ∀ g, t g D σ H) := by
  refine ⟨fun pins s σ H D I q Γ p hΓ => ?_⟩
  have k := (h (Γ.code.guards ++ guardsOf Γ.below)).run pins s σ H D (gd_inv I) (q _)
  refine (wpAny_mono k (fun f s' z => ?_) fun e s' z => z) Γ p (gd_in hΓ)
  cases f with
  | next =>
    obtain ⟨σ', H', J, z⟩ := z
    exact ⟨σ', H', ungd_inv J, z⟩
  | brk =>
    obtain ⟨σ', H', J, z⟩ := z
    exact ⟨σ', H', ungd_inv J, z⟩
  | cont =>
    obtain ⟨σ', H', J, z⟩ := z
    exact ⟨σ', H', ungd_inv J, z⟩
  | ret u =>
    obtain ⟨v, σ', H', J, r, z⟩ := z
    exact ⟨v, σ', H', ungd_inv J, r, z⟩
def rRepr (K : PySem.W.Frag) (g : List Code) : List V → Hp → VK → Prop := fun xs H Q => ∃ (v : V) (t : AT), xs = [v] ∧ Ap K H v t ∧ t.data.showable = true ∧ t.wid ≤ sizeLine ∧ t.data.depth ≤ 40 ∧ Q (.str (t.txt g)) H
theorem call_reprA {g : List Code} (hg : X.A.guards = some g) (hu : X.A.units + 64 < cLine) : CallR X (.builtin "repr") (rRepr X.K g) := by
  intro pins s σ H xs us Q I r h
  obtain ⟨v, t, rfl, ha, hs, hw, hd, q⟩ := h
  obtain ⟨u, rfl, ru⟩ := r.one
  have fin : ∀ (h' : Heap) (k tk : Tok), (∀ b o, s.heap.get? b = some o → h'.get? b = some o) → EP X pins σ Q (.str (t.txt g) k) { s with heap := h', toks := tk } := fun h' k tk hk => ⟨.str _, H, I.kept hk, ⟨_, rfl⟩, q⟩
  have fin0 : EP X pins σ Q (.str (t.txt g) s.toks) { s with toks := s.toks + 1 } := fin s.heap _ _ fun _ _ e => e
  cases t with
  | leaf d =>
    rw [AT.txt] at fin0
    rw [AT.wid] at hw
    cases ha with
    | non =>
      cases ru
      exact PySem.P.repr_of_none fin0
    | bl b =>
      cases ru
      exact PySem.P.repr_of_bool fin0
    | int i =>
      obtain ⟨k, rfl⟩ := ru
      exact PySem.P.repr_of_int (by simpa [AT.data, PyData.showable] using hs) fin0
    | str x =>
      obtain ⟨k, rfl⟩ := ru
      exact PySem.P.repr_of_str fin0 (by simpa only [PyData.shown] using hw)
  | lst a l =>
    have ha0 := ha
    obtain ⟨as, hR⟩ := Dp.reads I _ v u ha.dp ru
    cases ha with
    | lst hq hl =>
      cases ru
      obtain ⟨its, rv, ⟨o, n, ho, hc, _, hdt⟩, _⟩ := I.list hq
      refine call_repr_slot (by omega) ⟨o, ho, hc⟩ F.slot_list_repr.toG ?_
      cases l with
      | nil =>
        cases hl
        cases rv
        rw [AT.txt] at fin
        exact call_list_repr_empty ⟨o, ho, hc⟩ ho hdt ⟨_, _, rfl, fin s.heap _ _ fun _ _ e => e⟩
      | cons t l =>
        rw [AT.data, PyData.showable] at hs
        rw [AT.wid] at hw
        rw [AT.data, PyData.depth] at hd
        obtain ⟨bs, hb, hk⟩ := repr_ofAll (g0 := g) I (t :: l) _ its hl rv hs (by omega)
        rw [AT.data] at hR
        have hna : a ∉ bs := not_mem_of_deeper hR (by simp only [PyData.depth]; omega) hb
        cases hl with
        | cons h1 h2 =>
          cases rv with
          | cons r1 r2 =>
            rw [AT.txtAll] at hk
            rw [AT.txt] at fin
            have hz := txt_wid g (AT.lst a (t :: l))
            rw [AT.txt, AT.wid] at hz
            refine wpAny_call (codeAny_call_builtin_own (Code.quiet_builtin _ (by decide +kernel)) F.entry_list_repr (F.slot_list_repr.toG.check _ _ _ _ _ _ _ _ ⟨o, ho, hc⟩ (F.args_list_repr_1 _) ?_))
            refine list_at (R := callEnd _ _) (n := 0) ho hdt hna (by simpa using hk.len) (fun i y e => hk.item i y (by simpa using e)) F.slot_list_repr.plain hg (Agr.refl _ _) (by show X.A.units + 1 + _ < _; omega) (fun _ _ e => e) (fun h' u tk hk1 => ⟨_, _, rfl, fin h' u tk hk1⟩) fun hB => ?_
            rw [hB] at hz
            have hz2 : (listText (AT.txt g t :: AT.txtAll g l)).length ≤ 6 + AT.widAll (t :: l) := hz
            omega
  | tup a l =>
    obtain ⟨as, hR⟩ := Dp.reads I _ v u ha.dp ru
    cases ha with
    | tup hq hl =>
      cases ru
      obtain ⟨its, rv, ⟨o, ho, hc, n, hdt⟩, _⟩ := I.tuple hq
      refine call_repr_slot (by omega) ⟨o, ho, hc⟩ F.slot_tuple_repr ?_
      rw [AT.data, PyData.showable] at hs
      rw [AT.wid] at hw
      rw [AT.data, PyData.depth] at hd
      obtain ⟨bs, hb, hk⟩ := repr_ofAll (g0 := g) I l _ its hl rv hs (by omega)
      rw [AT.data] at hR
      have hna : a ∉ bs := not_mem_of_deeper hR (by simp only [PyData.depth]; omega) hb
      rw [AT.txt] at fin
      have hz := txt_wid g (AT.tup a l)
      rw [AT.txt, AT.wid] at hz
      refine wpAny_call (codeAny_call_builtin_own (Code.quiet_builtin _ (by decide +kernel)) F.entry_tuple_repr (F.slot_tuple_repr.check _ _ _ _ _ _ _ _ ⟨o, ho, hc⟩ (F.args_tuple_repr_1 _) ?_))
      refine tup_at (R := callEnd _ _) (n := 0) ho hdt hna (by simpa using hk) (isGuard_tuple_repr _) (units_under_tuple_repr _ _) hg (Agr.refl _ _) (by show X.A.units + 1 + _ < _; omega) (fun _ _ e => e) (fun h' u tk hk1 => ⟨_, _, rfl, fin h' u tk hk1⟩) fun hB => ?_
      rw [hB] at hz
      have hz2 : (tupleText (AT.txtAll g l)).length ≤ 6 + AT.widAll l := hz
      omega
end
/-! ### repr, where none is under way: by what the thing is -/
mutual
def dw : PyData → Nat
  | .list xs => 6 + dwAll xs
  | .tuple xs => 6 + dwAll xs
  | d => d.shown.length
def dwAll : List PyData → Nat
  | [] => 0
  | x :: xs => dw x + 2 + dwAll xs
end
section
open PySem.Spec PyProof.Rows
mutual
theorem dp_ap {K : PySem.W.Frag} {H : Hp} : ∀ {v : V} {d : PyData}, Dp K H v d → ∃ t : AT, Ap K H v t ∧ t.data = d ∧ t.wid = dw d ∧ t.txt [] = d.shown
  | _, _, .non => ⟨.leaf .none, .non, by rw [AT.data], by rw [AT.wid, dw] <;> nofun, by rw [AT.txt]⟩
  | _, _, .bl b => ⟨.leaf (.bool b), .bl b, by rw [AT.data], by rw [AT.wid, dw] <;> nofun, by rw [AT.txt]⟩
  | _, _, .int i => ⟨.leaf (.int i), .int i, by rw [AT.data], by rw [AT.wid, dw] <;> nofun, by rw [AT.txt]⟩
  | _, _, .str x => ⟨.leaf (.str x), .str x, by rw [AT.data], by rw [AT.wid, dw] <;> nofun, by rw [AT.txt]⟩
  | _, _, .lst (a := a) h q => by
    obtain ⟨l, h1, h2, h3, h4⟩ := dp_apAll q
    refine ⟨.lst a l, .lst h h1, by rw [AT.data, h2], by rw [AT.wid, dw, h3], ?_⟩
    rw [PyData.shown, ← h4]
    cases l with
    | nil =>
      rw [AT.txt, AT.txtAll]
      exact listText_nil.symm
    | cons t l =>
      rw [AT.txt, AT.txtAll]
      rfl
  | _, _, .tup (a := a) h q => by
    obtain ⟨l, h1, h2, h3, h4⟩ := dp_apAll q
    refine ⟨.tup a l, .tup h h1, by rw [AT.data, h2], by rw [AT.wid, dw, h3], ?_⟩
    rw [PyData.shown, ← h4, AT.txt]
    rfl
theorem dp_apAll {K : PySem.W.Frag} {H : Hp} : ∀ {vs : List V} {ds : List PyData}, DpAll K H vs ds → ∃ l : List AT, ApAll K H vs l ∧ AT.dataAll l = ds ∧ AT.widAll l = dwAll ds ∧ AT.txtAll [] l = PyData.shownAll ds
  | _, _, .nil => ⟨[], .nil, by rw [AT.dataAll], by rw [AT.widAll, dwAll], by rw [AT.txtAll, PyData.shownAll]⟩
  | _, _, .cons h q => by
    obtain ⟨t, a1, a2, a3, a4⟩ := dp_ap h
    obtain ⟨l, b1, b2, b3, b4⟩ := dp_apAll q
    exact ⟨t :: l, .cons a1 b1, by rw [AT.dataAll, a2, b2], by rw [AT.widAll, dwAll, a3, b3], by rw [AT.txtAll, PyData.shownAll, a4, b4]⟩
end
structure Shn (d : PyData) : Prop where
  s : d.showable = true
  w : dw d ≤ sizeLine
  d : d.depth ≤ 40
def rRepG (K : PySem.W.Frag) : List V → Hp → VK → Prop := fun xs H Q => ∃ (v : V) (d : PyData), xs = [v] ∧ Dp K H v d ∧ Shn d ∧ Q (.str d.shown) H
theorem call_reprG {X : Cx} (hg : X.A.guards = some []) (hu : X.A.units + 64 < cLine) : CallR X (.builtin "repr") (rRepG X.K) := by
  intro pins s σ H xs us Q I r h
  obtain ⟨v, d, rfl, hd, hs, q⟩ := h
  obtain ⟨t, h1, h2, h3, h4⟩ := dp_ap hd
  refine call_reprA hg hu pins s σ H _ us Q I r ⟨v, t, rfl, h1, by rw [h2]; exact hs.s, by rw [h3]; exact hs.w, by rw [h2]; exact hs.d, ?_⟩
  rw [h4]
  exact q
end
theorem dw_ints : ∀ {ns : List Int}, (∀ x ∈ ns, -1000000 ≤ x ∧ x ≤ 1000000) → PyData.showableAll (ns.map PyData.int) = true ∧ dwAll (ns.map PyData.int) ≤ 15 * ns.length ∧ PyData.depthAll (ns.map PyData.int) = 0
  | [], _ => ⟨by rw [List.map_nil, PyData.showableAll], by rw [List.map_nil, dwAll]; exact Nat.le_refl _, by rw [List.map_nil, PyData.depthAll]⟩
  | x :: r, h => by
    obtain ⟨a, b, c⟩ := dw_ints fun y hy => h y (List.mem_cons_of_mem _ hy)
    have hx := h x List.mem_cons_self
    have h1 : PyData.showable (.int x) = true := by
      rw [PyData.showable]
      refine decide_eq_true ?_
      have h1 : x.natAbs < 2 ^ 20 := by
        have : (2 : Nat) ^ 20 = 1048576 := by decide
        omega
      by_cases c : x.natAbs = 0
      · rw [c]
        decide
      · exact Nat.lt_trans ((Nat.log2_lt c).mpr h1) (by decide)
    have h2 : (PyData.shown (.int x)).length ≤ 13 := PyData.shown_int_le2 (by omega) (by omega)
    refine ⟨?_, ?_, ?_⟩
    · rw [List.map_cons, PyData.showableAll, h1, a]
      rfl
    · rw [List.map_cons, dwAll, List.length_cons]
      have : dw (.int x) = (PyData.shown (.int x)).length := by rw [dw] <;> nofun
      omega
    · rw [List.map_cons, PyData.depthAll, c, PyData.depth]
      rfl
theorem dw_rows : ∀ {ls : List (List Int)}, (∀ l ∈ ls, l.length ≤ 1000 ∧ ∀ x ∈ l, -1000000 ≤ x ∧ x ≤ 1000000) → PyData.showableAll (ls.map fun l => .list (l.map PyData.int)) = true ∧ dwAll (ls.map fun l => .list (l.map PyData.int)) ≤ 15100 * ls.length ∧ PyData.depthAll (ls.map fun l => .list (l.map PyData.int)) ≤ 1
  | [], _ => ⟨by rw [List.map_nil, PyData.showableAll], by rw [List.map_nil, dwAll]; exact Nat.le_refl _, by rw [List.map_nil, PyData.depthAll]; exact Nat.zero_le _⟩
  | x :: r, h => by
    obtain ⟨a, b, c⟩ := dw_rows fun y hy => h y (List.mem_cons_of_mem _ hy)
    obtain ⟨hl, hx⟩ := h x List.mem_cons_self
    obtain ⟨a1, b1, c1⟩ := dw_ints hx
    refine ⟨?_, ?_, ?_⟩
    · rw [List.map_cons, PyData.showableAll, PyData.showable, a1, a]
      rfl
    · rw [List.map_cons, dwAll, dw, List.length_cons]
      omega
    · rw [List.map_cons, PyData.depthAll, PyData.depth, c1]
      exact Nat.max_le.mpr ⟨by omega, c⟩
theorem shn_rows {ls : List (List Int)} (h : ∀ l ∈ ls, l.length ≤ 1000 ∧ ∀ x ∈ l, -1000000 ≤ x ∧ x ≤ 1000000) (k : ls.length ≤ 100) : Shn (.list (ls.map fun l => .list (l.map PyData.int))) := by
  obtain ⟨a, b, c⟩ := dw_rows h
  have hz : sizeLine = 16777216 := by decide
  refine ⟨?_, ?_, ?_⟩
  · rw [PyData.showable]
    exact a
  · rw [dw]
    omega
  · rw [PyData.depth]
    omega
/-! ### defs that are called while nothing is being shown -/
section
open PySem.Spec PyProof.Rows
/-- a def's promise where no repr is under way -/
structure FnG (P : Program) (w : World) (K : PySem.W.Frag) (mg : Str → Option Value) (base : Heap) (CX : CXT) (k : Nat) (f : Addr) (fd : FuncData) (ps : List Str) (sp : Sp) : Prop where
  len : ∀ vs H Q E, sp vs H Q E → vs.length = ps.length
  run : ∀ (A : Around) (outer : List Env) (s : Shared) (H : Hp) (args : Args) (us : List Value) (vs : List V) (Q : VK) (E : XK), A.guards = some [] → Room k A → Env0 P w K mg base A outer s H → BindsTo s fd args (ps.zip us) → Vals vs us → sp vs H Q E →
    codeAny (model P w) A (.call (.ref f) args) (CR CX outer P w H s Q E) s
variable {P : Program} {w : World} {K : PySem.W.Frag} {mg : Str → Option Value} {base : Heap} {CX : CXT} {k : Nat} {f : Addr} {fd : FuncData} {N ps : List Str} {sp : Sp}
theorem FnG.of (F : FnOk P w K mg base CX k f fd ps sp) : FnG P w K mg base CX k f fd ps sp := ⟨F.len, fun A outer s H args us vs Q E _ => F.run A outer s H args us vs Q E⟩
theorem okG {x qual : Str} {st : Stmt} (F : Fun K x qual st f fd) (S : FnScope N ps (defScope st)) (len : ∀ vs H Q E, sp vs H Q E → vs.length = ps.length)
    (body : ∀ (cdv : Value) (A : Around) (outer : List Env) (s : Shared) (H : Hp) (vs : List V) (Q : VK) (E : XK), A.guards = some [] → Room k (A.deeper (envOfC qual (defScope st) s.heap.objs.size f cdv)) → sp vs H Q E →
      ∃ t, PSs (cxOf CX0 P w K mg base N qual (defScope st) f cdv A outer s H E).nox (defBody st) t ∧ t { nx := fun _ H' => Q .non H', rt := Q } (L2.start N vs) H) : FnG P w K mg base CX0 (k + 1) f fd ps sp := by
  obtain ⟨oc, od, kV, doc, pm, an, cdv, ct, osl, rfl, lk, hcd⟩ := F.ex
  refine ⟨len, fun A outer s H args us vs Q E hgd hr e0 hb r hsp => ?_⟩
  have keeps : ∀ b o, base.get? b = some o → s.heap.get? b = some o := fun b o e => (e0.bs b o e).1
  have KX : K.In s.heap := e0.mod.kin.keeps keeps
  have kinds : ∀ y ∈ ps.zip us, (defScope st).names.lookup y.1 = some .local ∨ ((defScope st).names.lookup y.1 = some .cell ∧ ((cellsFrom (s.heap.objs.size + 1) (defScope st).names []).lookup y.1).isSome = true) := by
    rintro ⟨n, v⟩ hy
    rcases S.par n (List.of_mem_zip hy).1 with q | q
    · exact .inl q
    · exact .inr ⟨q, PySem.W.cellsFrom_some _ _ _ (.inl q)⟩
  refine codeAny_call_function hr.depth (KX _ _ lk) rfl S.co S.gen rfl (PySem.W.codeRec_of KX hcd) (hb _ _ _ _ (wpAny_newFunctionEnv_cells S.kind kinds fun env he s1 x => ?_))
  subst he
  refine ⟨(e0.mod.nolimit.keeps keeps).keeps x.toInCall.keep, codeAny_func ?_⟩
  obtain ⟨t, ht, hq⟩ := body cdv A outer s H vs Q E hgd (hr.deeper _) hsp
  have I := inv_start (CX := CX0) (E := E) S hr.hd e0 (len _ _ _ _ hsp) r x
  refine wpAny_mono (ht.nox.run [] s1 (L2.start N vs) H _ I hq) (fun fl s' z => ?_) fun e s' z => z
  cases fl with
  | ret u =>
    obtain ⟨v, σ', H', J, rv, z⟩ := z
    exact ⟨v, H', J.os, J.bare, J.base, J.hok, rv, z⟩
  | next =>
    obtain ⟨σ', H', J, z⟩ := z
    exact ⟨V.non, H', J.os, J.bare, J.base, J.hok, rfl, z⟩
  | brk =>
    obtain ⟨_, _, _, z⟩ := z
    exact z.elim
  | cont =>
    obtain ⟨_, _, _, z⟩ := z
    exact z.elim
variable {X : Cx} {dvs : List V} {ds : List Value} {E : XK} {x : Str} {p pos : Pos} {e : Expr} {es : List Expr} {t : TA}
theorem pe_callG (F : FnG X.prog X.w X.K X.mg X.base CX k f fd ps sp) (gd : X.A.guards = some []) (hr : Room k X.A) (hg : Gl X x) (hm : X.mg x = some (.ref f)) (hk : PySem.W.keepIn X.K (.ref f) = true) (hb : Binds X.K fd ps ds) (hd : Vals dvs ds) (hx : Passes CX X E) (ha : PA X (e :: es) t)
    (hdb : (x == ("__debug__" : Str)) = false := by decide) (he : starEach (e :: es) X.env = (false, eval e X.env) :: starEach es X.env := by rfl) (hpl : (backTo pos (starEach es X.env)).any (·.1) = false := by rfl) : PE X (.Call (.Name x p) (e :: es) [] pos) (tCall sp dvs E t) := by
  refine ⟨fun pins s σ H Q I h => wpAny_Call_Name_kw (ld_glob I hg hm ?_ hdb)⟩
  refine PySem.W.callWith_K (h₀ := X.base) I.ok.mod.kin hk (thn (ha.run pos pins s σ H _ I h) fun us s1 ⟨vs, H1, J, r, q⟩ => ⟨J.kIn, ?_⟩) he hpl
  have r2 : Vals (vs ++ dvs) (us ++ ds) := r.append hd
  refine wpAny_call (codeAny_mono (F.run X.A X.stack s1 H1 ⟨us, []⟩ (us ++ ds) (vs ++ dvs) Q E gd hr J.env0 (hb s1 us J.kIn (by rw [← r2.length]; exact F.len _ _ _ _ q)) r2 q) fun z s' hz => ?_)
  cases z with
  | error u => exact hx pins σ H1 s1 u s' J hz
  | ok fl =>
    cases fl with
    | ret u => exact J.after hz
    | next => exact hz.elim
    | brk => exact hz.elim
    | cont => exact hz.elim
end
section
open PySem.Spec PyProof.Rows
/-- the law's own call: nothing is being shown around it -/
theorem law_callG {P : Program} {w : World} {K : PySem.W.Frag} {mg mb : Str → Option Value} {k : Nat} {fa a : Addr} {fd : FuncData} {x : Str} {sp : Sp} {s1 : Shared} {vs : List Value} {ns : List Int} (KX : K.In s1.heap) (hns : s1.heap.Ns mainGlobals mg) (hb : s1.heap.Ns builtinsNs mb)
    (hbb : ∀ x : Str, x ≠ "__name__" → mb x = bootBuiltins x) (hlim : s1.heap.NoLimit) (hg : s1.gens = #[]) (ha : s1.heap.get? a = some { cls := .type "list", data := .seq vs.toArray }) (hi : IntsAre vs ns) (hl : ns.length ≤ sizeLine) (hr : Room k callerA)
    (F : ∀ base : Heap, K.In base → base.Ns mainGlobals mg → FnG P w K mg base CX0 k fa fd [x] sp) (hbind : ∀ (s : Shared) (u : Value), BindsTo s fd ⟨[u], []⟩ [(x, u)]) (hsp : ∀ H : Hp, Only H → SqL K H a (ns.map V.int) → sp [.ref a] H (fun v _ => v = .bl true) fun _ _ _ => False)
    : codeAny (model P w) callerA (.call (.ref fa) ⟨[.ref a], []⟩) (fun r s' => r = .ok (.ret (.bool true)) ∧ OldK s1.heap s'.heap ∧ s'.os = s1.os ∧ AllBare s'.gens) s1 := by
  have rv := vals_ints hi
  have lv := hi.length
  have main : ∀ H : Hp, Only H → SqL K H a (ns.map V.int) → HOk P w H s1.heap → (∀ b u, H b = some u → b = a) → (∀ u, H a = some u → K.lookup a = none) →
      codeAny (model P w) callerA (.call (.ref fa) ⟨[.ref a], []⟩) (fun r s' => r = .ok (.ret (.bool true)) ∧ OldK s1.heap s'.heap ∧ s'.os = s1.os ∧ AllBare s'.gens) s1 := by
    intro H hO hS hok hA hK
    have isn : ∀ {b : Addr}, b ≠ a → H b = none := fun {b} n => by
      cases q : H b with
      | none => rfl
      | some u => exact absurd (hA b u q) n
    have bn : ∀ {b : Addr} {m : Str → Option Value}, s1.heap.Ns b m → (hidT s1.heap H).Ns b m := by
      rintro b m ⟨o, es, ep, e, d, r⟩
      refine ⟨o, es, ep, hidT_get e (isn fun z => ?_), d, r⟩
      rw [z, ha] at e
      cases e
      cases d
    have bK : K.In (hidT s1.heap H) := fun b o e => hidT_get (KX b o e) (by
      cases q : H b with
      | none => rfl
      | some u =>
        have z := hA b u q
        subst z
        rw [hK u q] at e
        cases e)
    have lm : (hidT s1.heap H).NoLimit := by
      obtain ⟨mc, h1, h2⟩ := hlim
      exact ⟨mc, bn h1, h2⟩
    have e0 : Env0 P w K mg (hidT s1.heap H) callerA [] s1 H := ⟨rfl, ⟨bK, bn hns, ⟨mb, bn hb, hbb⟩, lm⟩, fun b o e => of_hidT e, Nat.le_of_eq (hidT_size _ _), trivial, (fun b z => nomatch z), hok, .of_eq hg⟩
    refine codeAny_mono ((F _ bK (bn hns)).run callerA [] s1 H ⟨[.ref a], []⟩ [.ref a] [.ref a] _ _ rfl hr e0 (hbind s1 (.ref a)) (.cons rfl .nil) (hsp H hO hS)) fun r s' h => ?_
    cases r with
    | error e => exact False.elim h
    | ok fl =>
      cases fl with
      | next => exact False.elim h
      | brk => exact False.elim h
      | cont => exact False.elim h
      | ret u =>
        obtain ⟨v, H', os, bare, un, hok', r', q⟩ := h
        have qv : v = .bl true := q
        subst qv
        obtain rfl : u = Value.bool true := r'
        refine ⟨rfl, OldK.of_keep fun b o e => ?_, os, bare⟩
        cases q : H b with
        | none => exact un.keep b o e q (fun z => nomatch z) (fun z => nomatch z)
        | some u =>
          rcases hO b with z | ⟨ob, xs, z⟩
          · rw [z] at q
            cases q
          · obtain ⟨e1, _⟩ := hok b _ z
            obtain ⟨e2, _⟩ := hok' b _ (un.frzs b ob _ z)
            rw [e1] at e
            cases e
            exact e2
  cases hk : K.lookup a with
  | some o =>
    have e := (KX a o hk).symm.trans ha
    cases e
    exact main (fun _ => none) (fun _ => .inl rfl) (.inr ⟨_, vs.toArray, _, hk, rfl, rfl, rfl, by rw [List.size_toArray, lv]; exact hl, by simpa using rv⟩) (fun b u z => nomatch z) (fun b u z => nomatch z) fun u z => nomatch z
  | none =>
    have gA : ∀ b u, (if b = a then some (HO.frz { cls := .type "list", data := .seq vs.toArray } (.lst (ns.map V.int))) else none) = some u → b = a ∧ u = HO.frz { cls := .type "list", data := .seq vs.toArray } (.lst (ns.map V.int)) := by
      intro b u z
      by_cases c : b = a
      · rw [if_pos c] at z
        exact ⟨c, (Option.some.inj z).symm⟩
      · rw [if_neg c] at z
        cases z
    refine main (fun b => if b = a then some (.frz { cls := .type "list", data := .seq vs.toArray } (.lst (ns.map V.int))) else none) (fun b => ?_) (.inl (.inr ⟨{ cls := .type "list", data := .seq vs.toArray }, if_pos rfl⟩)) (fun b u z => ?_) (fun b u z => (gA b u z).1) fun _ _ => hk
    · by_cases c : b = a
      · exact .inr ⟨_, _, if_pos c⟩
      · exact .inl (if_neg c)
    · obtain ⟨rfl, rfl⟩ := gA b u z
      exact ⟨ha, by rw [List.length_map]; exact hl, vs, _, rv, ha⟩
theorem walk_ofG {l : PySem.W.OpenLaw} {n k : Nat} {q : Program} {loose : List Str} {XP : (Str → Option Value) → Heap → Prop} {YP : World → Heap → Prop} {d : DefRec} {K : Params → PySem.W.Frag} {sp : World → Sp} {x : Str} (hn : l.most = some n) (hn2 : n ≤ sizeLine) (hdf : d.params.defaults = []) (hr : Room k callerA)
    (hY : ∀ (w : World) (h : Heap), YP w h → (K w.params).In h)
    (F : ∀ (w : World) (mg : Str → Option Value) (fa : Addr) (h : Heap), (K w.params).In h → h.Ns mainGlobals mg → mg d.name = some (.ref fa) → ∃ fd : FuncData, (∀ (s : Shared) (u : Value), BindsTo s fd ⟨[u], []⟩ [(x, u)]) ∧ ∀ base : Heap, (K w.params).In base → base.Ns mainGlobals mg → FnG l.prog w (K w.params) mg base CX0 k fa fd [x] (sp w))
    (hsp : ∀ (w : World) (H : Hp) (a : Addr) (ns : List Int), ns.length ≤ n → Only H → SqL (K w.params) H a (ns.map V.int) → sp w [.ref a] H (fun v _ => v = .bl true) fun _ _ _ => False) : PySem.W.WalkO q loose XP YP l.row.toRowW d [] (fun f vs => PySem.call f vs) := by
  refine Att.attach_call hn hdf fun w s₀ s1 mg mb fa o pm cd doc a vs ns G Y ho hd hcd hmg hobj hints hlen hg => ?_
  obtain ⟨fd, hb, hF⟩ := F w mg fa _ (hY w _ Y) G.T.g hmg
  exact law_callG (hY w _ Y) G.T.g G.T.b G.T.builtins G.T.nolimit hg hobj hints (Nat.le_trans hlen hn2) hr hF hb fun H hO hS => hsp w H a ns hlen hO hS
end
theorem dpi {K : PySem.W.Frag} {H : Hp} {a : Addr} {ns : List Int} (h : H a = some (.lst (ns.map V.int))) : Dp K H (.ref a) (.list (ns.map PyData.int)) := .lst (SqL.of h) (dp_ints ns)
theorem vNi (L : List Nat) : L.map vN = (L.map Int.ofNat).map V.int := by
  rw [List.map_map]
  rfl
theorem dpN {K : PySem.W.Frag} {H : Hp} {a : Addr} {L : List Nat} (h : H a = some (.lst (L.map vN))) : Dp K H (.ref a) (.list ((L.map Int.ofNat).map PyData.int)) := by
  rw [vNi] at h
  exact dpi h
theorem fiti {ns : List Int} (h : ns.length ≤ 4000) : Fit 1 (.list (ns.map PyData.int)) := by
  refine ⟨by rw [List.length_map]; exact h, fun e he => ?_⟩
  obtain ⟨c, _, rfl⟩ := List.mem_map.mp he
  exact True.intro
theorem fits {ls : List (List Int)} (h : ∀ l ∈ ls, l.length ≤ 4000) (k : ls.length ≤ 4000) : Fit 2 (.list (ls.map fun l => .list (l.map PyData.int))) := by
  refine ⟨by rw [List.length_map]; exact k, fun e he => ?_⟩
  obtain ⟨l, hl, rfl⟩ := List.mem_map.mp he
  exact fiti (h l hl)
theorem fit_up : ∀ {n : Nat} {d : PyData}, Fit n d → Fit (n + 1) d
  | 0, .list _, h => h.elim
  | 0, .tuple _, h => h.elim
  | n + 1, .list ds, h => ⟨h.1, fun e he => fit_up (h.2 e he)⟩
  | n + 1, .tuple ds, h => ⟨h.1, fun e he => fit_up (h.2 e he)⟩
  | 0, .dict _, h => h.elim
  | _ + 1, .dict _, h => h.elim
  | 0, .none, _ => True.intro
  | _ + 1, .none, _ => True.intro
  | 0, .bool _, _ => True.intro
  | _ + 1, .bool _, _ => True.intro
  | 0, .int _, _ => True.intro
  | _ + 1, .int _, _ => True.intro
  | 0, .str _, _ => True.intro
  | _ + 1, .str _, _ => True.intro
/-- the row, both orders, as they stand -/
structure St3 (N : Nat) (ns : List Int) (t u : List Nat) : Prop where
  n1 : 1 ≤ N
  n60 : N ≤ 60
  ln : ns.length = N
  lt : t.length = N
  lu : u.length = N
  pt : IsP t
  pu : IsP u
  nb : ∀ x ∈ ns, -1000000 ≤ x ∧ x ≤ 1000000
abbrev D3 (ns : List Int) (t u : List Nat) : PyData := .list (([ns, t.map Int.ofNat, u.map Int.ofNat] : List (List Int)).map fun l => .list (l.map PyData.int))
theorem ofn_bnd {t : List Nat} (h : IsP t) (k : t.length ≤ 60) : ∀ x ∈ t.map Int.ofNat, -1000000 ≤ x ∧ x ≤ 1000000 := by
  intro x hx
  obtain ⟨y, hy, rfl⟩ := List.mem_map.mp hx
  have := h.2 y hy
  show -1000000 ≤ (y : Int) ∧ (y : Int) ≤ 1000000
  omega
theorem St3.shn {N : Nat} {ns : List Int} {t u : List Nat} (h : St3 N ns t u) : Shn (D3 ns t u) := by
  have h60 := h.n60
  refine shn_rows (fun l hl => ?_) (by show 3 ≤ 100; decide)
  simp only [List.mem_cons, List.not_mem_nil, or_false] at hl
  rcases hl with z | z | z <;> rw [z]
  · exact ⟨by rw [h.ln]; omega, h.nb⟩
  · exact ⟨by rw [List.length_map, h.lt]; omega, ofn_bnd h.pt (by rw [h.lt]; omega)⟩
  · exact ⟨by rw [List.length_map, h.lu]; omega, ofn_bnd h.pu (by rw [h.lu]; omega)⟩
abbrev s__law_right : Stmt := top 18
abbrev N__law_right : List Str := ["_law_box_here", "_law_count", "_law_seats", "_law_more", "_law_row", "_law_stays", "_law_due", "_law_told", "_law_going", "_law_twice", "_law_others", "_law_other", "_law_k", "_law_to", "_law_at"]
abbrev P__law_right : List Str := ["_law_box_here"]
theorem sc__law_right : FnScope N__law_right P__law_right (defScope s__law_right) := ⟨rfl, rfl, rfl, by decide +kernel, rfl, by decide +kernel, by decide +kernel⟩
def spRt : Sp := fun vs H Q _ => ∃ (b : Addr) (n : Int), vs = [.ref b] ∧ BoxAt H b n ∧ n < 900000 ∧ ∀ H', Keep b H H' → BoxAt H' b (n + 400) → Q (.bl true) H'
section
variable {P : Program} {w : World} {K : PySem.W.Frag} {mg : Str → Option Value} {base : Heap}
theorem right_U {f f1 f2 : Addr} {d1 d2 : FuncData} {A : Around} {outer : List Env} {s : Shared} {H : Hp} {Q : VK} {E : XK} {cdv : Value} (T : Blt mg) (hgd : A.guards = some []) (hr : Room 5 (A.deeper (PyProof.Rows.envOfC "_law_right" (defScope s__law_right) s.heap.objs.size f cdv)))
    (D__law_same : Df K mg "_law_same" s__law_same P__law_same f1 d1) (D__law_refused : Df K mg "_law_refused" s__law_refused P__law_refused f2 d2) (G__law_refused : FnOk P w K mg base CX0 4 f2 d2 P__law_refused (spRefd K)) :
    ∃ tl, PSs (cxOf CX0 P w K mg base N__law_right "_law_right" (defScope s__law_right) f cdv A outer s H E).nox ((defBody s__law_right).drop 12) tl ∧
      ∀ (N : Nat) (ns : List Int) (t u : List Nat) (lr ls lm : Addr) (H3 : Hp) (x0 x6 x7 x8 x9 : Option V), St3 N ns t u → H3 lr = some (.lst (ns.map V.int)) → H3 ls = some (.lst (t.map vN)) → H3 lm = some (.lst (u.map vN)) → (∀ H', Same H3 H' → Q (.bl true) H') →
        tl { nx := fun _ H' => Q .non H', rt := Q } [x0, some (.int N), some (.ref ls), some (.ref lm), some (.ref lr), some (.str (D3 ns t u).shown), x6, x7, x8, x9, none, none, none, none, none] H3 := by
  have G__law_same : FnOk P w K mg base CX0 3 f1 d1 P__law_same (spSame K 2) := ok_same D__law_same T 2
  have nd := sc__law_right.nd
  refine ⟨_, (pss_cons (ps_set (i := 10) nd rfl (Or.inl rfl) (pe_op op_cat (pe_op op_rep (pe_lst (pa_cons (pe_op op_cat (pv 4) (pe_lst (pa_cons (pe_int) pa_nil))) pa_nil)) (pe_callTy call_int1 (by rfl) T.b_int (by decide +kernel) (pa_cons (pe_cmpR op_lt (pv 1) (pe_int) (nomark _)) pa_nil))) (pe_op op_rep (pe_lst (pa_cons (pe_slice (r := rSlL K) sl_list (pv 4) po_none (po_some (pe_un un_neg (pe_int)))) pa_nil)) (pe_callTy call_int1 (by rfl) T.b_int (by decide +kernel) (pa_cons (pe_cmpR op_gt (pv 1) (pe_int) (nomark _)) pa_nil)))))
      (pss_cons (ps_for PassesOwn.never rfl (pi_list (pe_op op_cat (pv 10) (pe_op op_rep (pe_lst (pa_cons (pe_op op_cat (pv 4) (pv 4)) pa_nil)) (pe_callTy call_int1 (by rfl) T.b_int (by decide +kernel) (pa_cons (pe_cmpR op_lt (pv 1) (pe_int) (nomark _)) pa_nil))))) (pg_name (i := 11) nd rfl (Or.inl rfl))
      (pss_cons (ps_set (i := 6) nd rfl (Or.inr rfl) (pe_ifExp (pt_cmpR op_ne (pe_callB (r := rLenQ K) call_len_seq (by rfl) T.b_len (by decide +kernel) (pa_cons (pv 11) pa_nil)) (pv 1) (nomark _)) (pe_callB (r := rLenQ K) call_len_seq (by rfl) T.b_len (by decide +kernel) (pa_cons (pv 11) pa_nil)) (pe_non)))
      (pss_one (ps_if (pt_not (pt_val (pe_call G__law_same (hr.mono (by omega)) (by rfl) D__law_same.g D__law_same.F.kp D__law_same.b .nil pass0 (pa_cons (pe_call G__law_refused (hr.mono (by omega)) (by rfl) D__law_refused.g D__law_refused.F.kp D__law_refused.b .nil pass0 (pa_cons (pv 11) (pa_cons (pv 2) pa_nil))) (pa_cons (pv 6) pa_nil))))) (pss_one (ps_ret (pe_bl))) pss_nil))))
      (pss_one (ps_ret (pe_cmpR op_eq (pe_callB (r := rRepG K) (call_reprG hgd hr.units) (by rfl) T.b_repr (by decide +kernel) (pa_cons (pe_lst (pa_cons (pv 4) (pa_cons (pv 2) (pa_cons (pv 3) pa_nil)))) pa_nil)) (pv 5) (nomark _)))))), ?_⟩
  intro N ns t u lr ls lm H3 x0 x6 x7 x8 x9 h3 hlr hls hlm q
  have n1 := h3.n1
  have n60 := h3.n60
  have hln := h3.ln
  have hml : (ns.map V.int).length = N := by rw [List.length_map, hln]
  walk_at "ev"
  w_cond _4
  have hlr4 := sm4 _ _ hlr
  have z1 : (ns.map V.int).length + ([V.int 0] : List V).length ≤ sizeLine := szl (by rw [hml]; show _ + 1 ≤ 60000; omega)
  walk_at "ev"
  w_cond _5
  walk_at "ev"
  w_cond _6
  walk_at "ev"
  w_cond _7
  have hL7 := SqL.of (K := K) ((sm5.trans (sm6.trans sm7)) _ _ hlr4)
  walk_at "ev"
  w_cond _8
  walk_at "ev"
  w_cond _9
  walk_at "ev"
  w_cond _10
  have h710 := (sm8.trans (sm9.trans sm10)) _ _ hq7
  have z2 : (List.replicate (if decide ((N : Int) < 60) = true then 1 else 0 : Int).toNat [V.ref l5]).flatten.length + (List.replicate (if decide ((1 : Int) < (N : Int)) = true then 1 else 0 : Int).toNat [V.ref l8]).flatten.length ≤ sizeLine := szl (by
    rw [rep_flat, rep_flat, List.length_replicate, List.length_replicate]
    split <;> split <;> decide)
  walk_at "ev"
  w_cond _11
  have s311 := sm4.trans (sm5.trans (sm6.trans (sm7.trans (sm8.trans (sm9.trans (sm10.trans sm11))))))
  have hlr11 := s311 _ _ hlr
  have z3 : (ns.map V.int).length + (ns.map V.int).length ≤ sizeLine := szl (by rw [hml]; omega)
  walk_at "ev"
  w_cond _12
  walk_at "ev"
  w_cond _13
  walk_at "ev"
  w_cond _14
  have q5 := (sm6.trans (sm7.trans (sm8.trans (sm9.trans (sm10.trans (sm11.trans (sm12.trans (sm13.trans sm14)))))))) _ _ hq5
  have q8 := (sm9.trans (sm10.trans (sm11.trans (sm12.trans (sm13.trans sm14))))) _ _ hq8
  have q12 := (sm13.trans sm14) _ _ hq12
  have q11 := (sm12.trans (sm13.trans sm14)) _ _ hq11
  have hall : ∀ v ∈ ((List.replicate (if decide ((N : Int) < 60) = true then 1 else 0 : Int).toNat [V.ref l5]).flatten ++ (List.replicate (if decide ((1 : Int) < (N : Int)) = true then 1 else 0 : Int).toNat [V.ref l8]).flatten) ++ (List.replicate (if decide ((N : Int) < 31) = true then 1 else 0 : Int).toNat [V.ref l12]).flatten, ∃ (o : Addr) (vs : List V), v = .ref o ∧ H14 o = some (.lst vs) ∧ vs.length ≤ 200 := by
    intro v hv
    rw [rep_flat, rep_flat, rep_flat] at hv
    rcases List.mem_append.mp hv with z | z
    · rcases List.mem_append.mp z with z | z
      · refine ⟨l5, _, (List.mem_replicate.mp z).2, q5, ?_⟩
        rw [List.length_append, hml]
        show N + 1 ≤ 200
        omega
      · refine ⟨l8, _, (List.mem_replicate.mp z).2, q8, ?_⟩
        have e : cutV (ns.map V.int) none (some (-1)) = ((ns.map V.int).drop 0).take (HT.sIx (ns.map V.int).length (ns.map V.int).length (some (-1)) - 0) := rfl
        show (cutV (ns.map V.int) none (some (-1))).length ≤ 200
        rw [e, List.length_take, List.length_drop, hml]
        omega
    · refine ⟨l12, _, (List.mem_replicate.mp z).2, q12, ?_⟩
      rw [List.length_append, hml]
      omega
  have z4 : ((List.replicate (if decide ((N : Int) < 60) = true then 1 else 0 : Int).toNat [V.ref l5]).flatten ++ (List.replicate (if decide ((1 : Int) < (N : Int)) = true then 1 else 0 : Int).toNat [V.ref l8]).flatten).length + (List.replicate (if decide ((N : Int) < 31) = true then 1 else 0 : Int).toNat [V.ref l12]).flatten.length ≤ sizeLine := szl (by
    rw [List.length_append, rep_flat, rep_flat, rep_flat, List.length_replicate, List.length_replicate, List.length_replicate]
    split <;> split <;> split <;> decide)
  walk_at "ev"
  w_cond _15
  have s315 := s311.trans (sm12.trans (sm13.trans (sm14.trans sm15)))
  generalize ((List.replicate (if decide ((N : Int) < 60) = true then 1 else 0 : Int).toNat [V.ref l5]).flatten ++ (List.replicate (if decide ((1 : Int) < (N : Int)) = true then 1 else 0 : Int).toNat [V.ref l8]).flatten) ++ (List.replicate (if decide ((N : Int) < 31) = true then 1 else 0 : Int).toNat [V.ref l12]).flatten = XS at *
  have hL15 := SqL.of (K := K) hq15
  refine ⟨l15, rfl, ⟨_, hL15⟩, ?_⟩
  refine for_list (K := K) (a := l15) (xs := XS) (fun i σ H' => Hold (∃ y6 y11, σ = [x0, some (.int N), some (.ref ls), some (.ref lm), some (.ref lr), some (.str (D3 ns t u).shown), y6, x7, x8, x9, some (.ref l11), y11, none, none, none] ∧ Same H15 H')) (.mk ⟨_, _, rfl, Same.refl _⟩) ?_ ?_ ?_
  · intro i σ H16 hi hP
    obtain ⟨y6, y11, rfl, sm16⟩ := hP.un
    exact sm16.seq hL15
  · intro i v σ H16 hv hP
    obtain ⟨y6, y11, rfl, sm16⟩ := hP.un
    obtain ⟨o, vs, rfl, ho, hvl⟩ := hall v (List.mem_of_getElem? hv)
    have ho16 := (sm15.trans sm16) _ _ ho
    have hLo := SqL.of (K := K) ho16
    have hls16 := SqL.of (K := K) ((s315.trans sm16) _ _ hls)
    have htl : t.length ≤ 1000 := by rw [h3.lt]; omega
    have htp := h3.pt
    walk_at "ev"
    by_cases c : vs.length = N
    · have ct : vs.length = t.length := by rw [c, h3.lt]
      refine iteFe (by simp [c]) ?_
      walk_at "ev"
      refine ⟨fun _ H17 sm17 => ?_, fun c2 => absurd ct c2⟩
      have hd1 : Dp K H17 .non .none := .non
      have hft : Fit 2 .none := True.intro
      walk_at "ev"
      intro H18 sm18
      walk_at "ev"
      exact .mk ⟨_, _, rfl, sm16.trans (sm17.trans sm18)⟩
    · have ct : vs.length ≠ t.length := by rw [h3.lt]; exact c
      refine iteTe (by simp; omega) ?_
      walk_at "ev"
      refine fun _ H17 sm17 => ?_
      have hd1 : Dp K H17 (.int (vs.length : Int)) (.int (vs.length : Int)) := .int _
      have hft : Fit 2 (.int (vs.length : Int)) := True.intro
      walk_at "ev"
      intro H18 sm18
      walk_at "ev"
      exact .mk ⟨_, _, rfl, sm16.trans (sm17.trans sm18)⟩
  · intro σ H16 hP
    obtain ⟨y6, y11, rfl, sm16⟩ := hP.un
    walk_at "ev"
    w_cond _17
    have s317 := s315.trans (sm16.trans sm17)
    have hd : Dp K H17 (.ref l17) (D3 ns t u) := .lst (SqL.of hq17) (.cons (dpi (s317 _ _ hlr)) (.cons (dpN (s317 _ _ hls)) (.cons (dpN (s317 _ _ hlm)) .nil)))
    have hsn := h3.shn
    walk_at "ev"
    rw [decide_eq_true rfl]
    exact q _ s317
end
def vI : V → Int
  | .int i => i
  | _ => 0
theorem put_ints {t : List Nat} {ns : List Int} {ys : List V} (h : IsP t) (hl : ns.length = t.length) (a : PutOf t (ns.map V.int) ys) : ∃ ms : List Int, ys = ms.map V.int ∧ ms.length = t.length ∧ (∀ x ∈ ms, x ∈ ns) ∧ ∀ (i x : Nat), t[i]? = some x → ms.getD x 0 = ns.getD i 0 := by
  have key : ∀ (i x : Nat), t[i]? = some x → ys[x]? = some (.int (ns.getD i 0)) := fun i x hi => by
    have hil : i < t.length := (List.getElem?_eq_some_iff.mp hi).1
    rw [a.2 i x hi, List.getElem?_map, List.getD_eq_getElem?_getD, List.getElem?_eq_getElem (by omega)]
    rfl
  have e : ys = (ys.map vI).map V.int := by
    refine List.ext_getElem? fun k => ?_
    by_cases c : k < t.length
    · obtain ⟨i, hi⟩ := List.mem_iff_getElem?.mp (h.sur c)
      rw [List.getElem?_map, List.getElem?_map, key i k hi]
      rfl
    · rw [List.getElem?_eq_none (by have := a.1; omega), List.getElem?_eq_none (by rw [List.length_map, List.length_map]; have := a.1; omega)]
  refine ⟨ys.map vI, e, by rw [List.length_map]; exact a.1, fun x hx => ?_, fun i x hi => ?_⟩
  · obtain ⟨v, hv, rfl⟩ := List.mem_map.mp hx
    obtain ⟨k, hk⟩ := List.mem_iff_getElem?.mp hv
    have hkl : k < ys.length := (List.getElem?_eq_some_iff.mp hk).1
    rw [a.1] at hkl
    obtain ⟨i, hi⟩ := List.mem_iff_getElem?.mp (h.sur hkl)
    have := key i k hi
    rw [hk] at this
    cases this
    show ns.getD i 0 ∈ ns
    have hil : i < t.length := (List.getElem?_eq_some_iff.mp hi).1
    rw [List.getD_eq_getElem?_getD, List.getElem?_eq_getElem (by omega)]
    exact List.getElem_mem (by omega)
  · rw [List.getD_eq_getElem?_getD, List.getElem?_map, key i x hi]
    rfl
theorem put_comp {t u : List Nat} {xs ys zs : List V} (ht : IsP t) (hu : IsP u) (e : t.length = u.length) (a : PutOf t xs ys) (b : PutOf u ys zs) : PutOf (t.map fun x => u.getD x 0) xs zs ∧ IsP (t.map fun x => u.getD x 0) := by
  have ug : ∀ x < u.length, u[x]? = some (u.getD x 0) := fun x hx => by
    rw [List.getD_eq_getElem?_getD, List.getElem?_eq_getElem hx]
    rfl
  refine ⟨⟨by rw [b.1, List.length_map, e], fun i y hi => ?_⟩, ?_, fun y hy => ?_⟩
  · rw [List.getElem?_map] at hi
    obtain ⟨x, hx, rfl⟩ := Option.map_eq_some_iff.mp hi
    have hxl := ht.2 x (List.mem_of_getElem? hx)
    rw [b.2 x _ (ug x (by omega)), a.2 i x hx]
  · refine List.pairwise_iff_getElem.mpr fun i j hi hj hij ee => ?_
    rw [List.length_map] at hi hj
    rw [List.getElem_map, List.getElem_map] at ee
    have h1 := ht.2 _ (List.getElem_mem hi)
    have h2 := ht.2 _ (List.getElem_mem hj)
    have u1 := ug _ (show t[i] < u.length by omega)
    have u2 := ug _ (show t[j] < u.length by omega)
    rw [ee] at u1
    have e1 := hu.inj u1 u2
    have := (List.getElem_inj ht.1).mp e1
    omega
  · obtain ⟨x, hx, rfl⟩ := List.mem_map.mp hy
    have hxl := ht.2 x hx
    rw [List.length_map, e]
    exact hu.2 _ (List.mem_of_getElem? (ug x (by omega)))
theorem rot_eq {t : List Nat} {s m : Nat} (h : Cyc t s m) : ((List.range (m + 1)).map (itN t s)).drop 1 ++ ((List.range (m + 1)).map (itN t s)).take 1 = (List.range (m + 1)).map fun j => itN t s (j + 1) := by
  refine List.ext_getElem? fun k => ?_
  by_cases c : k < m
  · rw [List.getElem?_append_left (by rw [List.length_drop, List.length_map, List.length_range]; omega), List.getElem?_drop, List.getElem?_map, List.getElem?_map, List.getElem?_range (by omega), List.getElem?_range (by omega)]
    show some (itN t s (1 + k)) = some (itN t s (k + 1))
    rw [Nat.add_comm]
  · by_cases c2 : k = m
    · subst c2
      rw [List.getElem?_append_right (by rw [List.length_drop, List.length_map, List.length_range]; omega), List.length_drop, List.length_map, List.length_range, show k - (k + 1 - 1) = 0 by omega, List.getElem?_take_of_lt (by omega), List.getElem?_map, List.getElem?_map, List.getElem?_range (by omega), List.getElem?_range (by omega)]
      show some s = some (itN t s (k + 1))
      rw [h.2.1]
    · rw [List.getElem?_eq_none (by rw [List.length_append, List.length_drop, List.length_take, List.length_map, List.length_range]; omega), List.getElem?_eq_none (by rw [List.length_map, List.length_range]; omega)]
theorem cut1 {xs : List V} (h : 1 ≤ xs.length) : cutV xs (some 1) none = xs.drop 1 ∧ cutV xs none (some 1) = xs.take 1 := by
  constructor
  · have z : cutV xs (some 1) none = (xs.drop (min 1 xs.length)).take (xs.length - min 1 xs.length) := rfl
    rw [z, Nat.min_eq_left h, List.take_of_length_le (by rw [List.length_drop]; omega)]
  · have z : cutV xs none (some 1) = xs.take (min 1 xs.length) := rfl
    rw [z, Nat.min_eq_left h]
section
variable {P : Program} {w : World} {K : PySem.W.Frag} {mg : Str → Option Value} {base : Heap}
theorem right_V {f f1 f2 f3 f4 f5 C : Addr} {d1 d2 d3 d4 d5 : FuncData} {A : Around} {outer : List Env} {s : Shared} {H : Hp} {Q : VK} {E : XK} {cdv : Value} (T : Blt mg) (hgd : A.guards = some []) (hr : Room 5 (A.deeper (PyProof.Rows.envOfC "_law_right" (defScope s__law_right) s.heap.objs.size f cdv)))
    (D__law_same : Df K mg "_law_same" s__law_same P__law_same f1 d1) (D__law_refused : Df K mg "_law_refused" s__law_refused P__law_refused f2 d2) (G__law_refused : FnOk P w K mg base CX0 4 f2 d2 P__law_refused (spRefd K)) (D_put_in_order : Df K mg "put_in_order" s_put_in_order P_put_in_order f3 d3) (G_put_in_order : FnOk P w K mg base (L2.CX P w) 3 f3 d3 P_put_in_order (spPutL K C)) (D_order_cycles : Df K mg "order_cycles" s_order_cycles P_order_cycles f4 d4) (D_round_from : Df K mg "round_from" s_round_from P_round_from f5 d5) :
    ∃ tl, PSs (cxOf CX0 P w K mg base N__law_right "_law_right" (defScope s__law_right) f cdv A outer s H E).nox ((defBody s__law_right).drop 9) tl ∧
      ∀ (N : Nat) (ns ms : List Int) (t u : List Nat) (lr ls lm ld : Addr) (H3 : Hp) (x0 x7 : Option V), St3 N ns t u → PutOf t (ns.map V.int) (ms.map V.int) → ms.length = N → (∀ (i x : Nat), t[i]? = some x → ms.getD x 0 = ns.getD i 0) → H3 lr = some (.lst (ns.map V.int)) → H3 ls = some (.lst (t.map vN)) → H3 lm = some (.lst (u.map vN)) → H3 ld = some (.lst (ms.map V.int)) → (∀ H', Same H3 H' → Q (.bl true) H') →
        tl { nx := fun _ H' => Q .non H', rt := Q } [x0, some (.int N), some (.ref ls), some (.ref lm), some (.ref lr), some (.str (D3 ns t u).shown), some (.ref ld), x7, none, none, none, none, none, none, none] H3 := by
  have G__law_same : FnOk P w K mg base CX0 3 f1 d1 P__law_same (spSame K 2) := ok_same D__law_same T 2
  have G_order_cycles : FnOk P w K mg base CX0 2 f4 d4 P_order_cycles (spCycL K) := ok_cycL (k := 0) D_order_cycles.F T D_round_from
  obtain ⟨tl, htl, fin⟩ := right_U (P := P) (w := w) (base := base) (outer := outer) (H := H) (Q := Q) (E := E) T hgd hr D__law_same D__law_refused G__law_refused
  have nd := sc__law_right.nd
  refine ⟨_, (pss_cons (ps_for PassesOwn.never rfl (pi_list (pe_call G_order_cycles (hr.mono (by omega)) (by rfl) D_order_cycles.g D_order_cycles.F.kp D_order_cycles.b .nil pass0 (pa_cons (pv 2) pa_nil))) (pg_name (i := 8) nd rfl (Or.inl rfl))
      (pss_one (ps_if (pt_cmpR (r := rNeD K) (op_neD hr.units) (pe_lc (own := [("_law_to", 13)]) (g := gName 13) (by rfl) nd (pi_list (pe_op op_cat (pe_slice (r := rSlL K) sl_list (pv 8) (po_some (pe_int)) po_none) (pe_slice (r := rSlL K) sl_list (pv 8) po_none (po_some (pe_int))))) (blkOk_by (own := [("_law_to", 13)]) (N := N__law_right) (sc := defScope s__law_right) (by decide +kernel)) (fun _ _ _ _ _ => (pg_name (i := 13) nd rfl (Or.inl rfl))) (fun _ _ _ _ _ => pts_nil) (fun _ _ _ _ _ => (pe_ix (r := rIxL K) ix_list (pv 6) (pv 13) (fun _ _ => rfl)))) (pe_lc (own := [("_law_at", 14)]) (g := gName 14) (by rfl) nd (pi_list (pv 8)) (blkOk_by (own := [("_law_at", 14)]) (N := N__law_right) (sc := defScope s__law_right) (by decide +kernel)) (fun _ _ _ _ _ => (pg_name (i := 14) nd rfl (Or.inl rfl))) (fun _ _ _ _ _ => pts_nil) (fun _ _ _ _ _ => (pe_ix (r := rIxL K) ix_list (pv 4) (pv 14) (fun _ _ => rfl)))) (nomark _)) (pss_one (ps_ret (pe_bl))) pss_nil)))
      (pss_cons (ps_setLc (i := 9) (own := [("_law_to", 13)]) (g := gName 13) (by rfl) nd rfl rfl (sw_true rfl rfl rfl (by decide +kernel)) (pi_list (pv 2)) (blkOk_by (own := [("_law_to", 13)]) (N := N__law_right) (sc := defScope s__law_right) (by decide +kernel)) (fun _ _ _ _ _ => (pg_name (i := 13) nd rfl (Or.inl rfl))) (fun _ _ _ _ _ => pts_nil) (fun _ _ _ _ _ => (pe_ix (r := rIxL K) ix_list (pv 3) (pv 13) (fun _ _ => rfl))))
      (pss_cons (ps_if (pt_not (pt_val (pe_call G__law_same (hr.mono (by omega)) (by rfl) D__law_same.g D__law_same.F.kp D__law_same.b .nil pass0 (pa_cons (pe_call G_put_in_order (hr.mono (by omega)) (by rfl) D_put_in_order.g D_put_in_order.F.kp D_put_in_order.b .nil passL (pa_cons (pe_call G_put_in_order (hr.mono (by omega)) (by rfl) D_put_in_order.g D_put_in_order.F.kp D_put_in_order.b .nil passL (pa_cons (pv 4) (pa_cons (pv 2) pa_nil))) (pa_cons (pv 3) pa_nil))) (pa_cons (pe_call G_put_in_order (hr.mono (by omega)) (by rfl) D_put_in_order.g D_put_in_order.F.kp D_put_in_order.b .nil passL (pa_cons (pv 4) (pa_cons (pv 9) pa_nil))) pa_nil))))) (pss_one (ps_ret (pe_bl))) pss_nil)
      htl))), ?_⟩
  intro N ns ms t u lr ls lm ld H3 x0 x7 h3 hput hml hmg hlr hls hlm hld q
  have n60 := h3.n60
  have hln := h3.ln
  have hlt := h3.lt
  have hls3 := SqL.of (K := K) hls
  have htp := h3.pt
  have ht60 : t.length ≤ 60 := by omega
  walk_at "ev"
  intro l4 ps H4 hps hcy hl4 sm4 hq4
  have hL4 := SqL.of (K := K) hq4
  refine ⟨l4, rfl, ⟨_, hL4⟩, ?_⟩
  refine for_list (K := K) (a := l4) (xs := ps) (fun i σ H' => Hold (∃ y8, σ = [x0, some (.int N), some (.ref ls), some (.ref lm), some (.ref lr), some (.str (D3 ns t u).shown), some (.ref ld), x7, y8, none, none, none, none, none, none] ∧ Same H4 H')) (.mk ⟨_, rfl, Same.refl _⟩) ?_ ?_ ?_
  · intro i σ H5 hi hP
    obtain ⟨y8, rfl, sm5⟩ := hP.un
    exact sm5.seq hL4
  · intro i v σ H5 hv hP
    obtain ⟨y8, rfl, sm5⟩ := hP.un
    obtain ⟨p, st, m, rfl, hc, hm, hpq⟩ := hcy v (List.mem_of_getElem? hv)
    have hp5 := sm5 _ _ hpq
    have hLp := SqL.of (K := K) hp5
    have hcl : (((List.range (m + 1)).map (itN t st)).map vN).length = m + 1 := by rw [List.length_map, List.length_map, List.length_range]
    obtain ⟨e1, e2⟩ := cut1 (xs := ((List.range (m + 1)).map (itN t st)).map vN) (by rw [hcl]; omega)
    walk_at "ev"
    w_cond _6
    rw [e1] at hq6
    have hLp6 := sm6.seq hLp
    walk_at "ev"
    w_cond _7
    rw [e2] at hq7
    have h67 := sm7 _ _ hq6
    have z7 : ((((List.range (m + 1)).map (itN t st)).map vN).drop 1).length + ((((List.range (m + 1)).map (itN t st)).map vN).take 1).length ≤ sizeLine := szl (by rw [List.length_drop, List.length_take, hcl]; omega)
    walk_at "ev"
    w_cond _8
    have hq8' : H8 l8 = some (.lst (((List.range (m + 1)).map fun j => itN t st (j + 1)).map vN)) := by
      rw [hq8, ← List.map_drop, ← List.map_take, ← List.map_append, rot_eq hc]
    have hL8 := SqL.of (K := K) hq8'
    have s58 := sm6.trans (sm7.trans sm8)
    have s38 := sm4.trans (sm5.trans s58)
    refine ⟨l8, rfl, ⟨_, hL8⟩, fun D hD => ?_⟩
    refine lc_list (K := K) (a := l8) (xs := ((List.range (m + 1)).map fun j => itN t st (j + 1)).map vN) (fun j H' => Hold (Same H8 H' ∧ H' D = some (.lst (((List.range j).map fun j => ns.getD (itN t st j) 0).map V.int)))) (.mk ⟨same_new hD, upd_same⟩) ?_ ?_ ?_
    · intro j H9 hj hP9
      obtain ⟨sm9, hD9⟩ := hP9.un
      exact sm9.seq hL8
    · intro j v H9 hv hP9
      obtain ⟨sm9, hD9⟩ := hP9.un
      have hjl := (List.getElem?_eq_some_iff.mp hv).1
      rw [List.length_map, List.length_map, List.length_range] at hjl
      rw [List.getElem?_map, List.getElem?_map, List.getElem?_range hjl] at hv
      cases Option.some.inj hv
      have hld9 := SqL.of (K := K) ((s38.trans sm9) _ _ hld)
      have hlt1 := it_lt htp hc.1 (j + 1)
      have hat : atI (ms.map V.int) ((itN t st (j + 1) : Nat) : Int) = some (.int (ns.getD (itN t st j) 0)) := by
        refine at_of (j := itN t st (j + 1)) rfl ?_
        rw [List.getElem?_map, List.getElem?_eq_getElem (by omega), ← hmg _ _ (it_get htp hc.1 j), List.getD_eq_getElem?_getD, List.getElem?_eq_getElem (by omega)]
        rfl
      have hsz : (((List.range j).map fun j => ns.getD (itN t st j) 0).map V.int).length < sizeLine := szm (by rw [List.length_map, List.length_map, List.length_range]; omega)
      walk_at "ev"
      refine .mk ⟨same_mut sm9 hD, ?_⟩
      rw [upd_same, List.range_succ, List.map_append, List.map_append]
      rfl
    intro H9 hP9
    obtain ⟨sm9, hD9⟩ := hP9.un
    rw [List.length_map, List.length_map, List.length_range] at hD9
    have hLp9 := (s58.trans sm9).seq hLp
    refine ⟨_, rfl, p, rfl, ⟨_, hLp9⟩, fun D2 hD2 => ?_⟩
    refine lc_list (K := K) (a := p) (xs := ((List.range (m + 1)).map (itN t st)).map vN) (fun j H' => Hold (Same H9 H' ∧ H' D2 = some (.lst (((List.range j).map fun j => ns.getD (itN t st j) 0).map V.int)))) (.mk ⟨same_new hD2, upd_same⟩) ?_ ?_ ?_
    · intro j H10 hj hP10
      obtain ⟨sm10, hD10⟩ := hP10.un
      exact sm10.seq hLp9
    · intro j v H10 hv hP10
      obtain ⟨sm10, hD10⟩ := hP10.un
      have hjl := (List.getElem?_eq_some_iff.mp hv).1
      rw [hcl] at hjl
      rw [List.getElem?_map, List.getElem?_map, List.getElem?_range hjl] at hv
      cases Option.some.inj hv
      have hlr10 := SqL.of (K := K) ((s38.trans (sm9.trans sm10)) _ _ hlr)
      have hlt1 := it_lt htp hc.1 j
      have hat : atI (ns.map V.int) ((itN t st j : Nat) : Int) = some (.int (ns.getD (itN t st j) 0)) := by
        refine at_of (j := itN t st j) rfl ?_
        rw [List.getElem?_map, List.getD_eq_getElem?_getD, List.getElem?_eq_getElem (by omega)]
        rfl
      have hsz : (((List.range j).map fun j => ns.getD (itN t st j) 0).map V.int).length < sizeLine := szm (by rw [List.length_map, List.length_map, List.length_range]; omega)
      walk_at "ev"
      refine .mk ⟨same_mut sm10 hD2, ?_⟩
      rw [upd_same, List.range_succ, List.map_append, List.map_append]
      rfl
    intro H10 hP10
    obtain ⟨sm10, hD10⟩ := hP10.un
    rw [hcl] at hD10
    have hdR := dpi (K := K) (sm10 _ _ hD9)
    have hdS := dpi (K := K) hD10
    have hsh := PySem.W.ke_shaped_ints ((List.range (m + 1)).map fun j => ns.getD (itN t st j) 0)
    have heq : (!PyData.eqv (.list (((List.range (m + 1)).map fun j => ns.getD (itN t st j) 0).map PyData.int)) (.list (((List.range (m + 1)).map fun j => ns.getD (itN t st j) 0).map PyData.int))) = false := by
      rw [PyData.eqv, eqv_ints, decide_eq_true rfl]
      rfl
    walk_at "ev"
    refine iteFe heq ?_
    walk_at "ev"
    exact .mk ⟨_, rfl, sm5.trans (s58.trans (sm9.trans sm10))⟩
  intro σ H5 hP
  obtain ⟨y8, rfl, sm5⟩ := hP.un
  have s35 := sm4.trans sm5
  have hls5 := SqL.of (K := K) (s35 _ _ hls)
  walk_at "ev"
  refine ⟨⟨_, hls5⟩, fun D hD => ?_⟩
  refine lc_list (K := K) (a := ls) (xs := t.map vN) (fun j H' => Hold (Same H5 H' ∧ H' D = some (.lst (((t.take j).map fun x => u.getD x 0).map vN)))) (.mk ⟨same_new hD, upd_same⟩) ?_ ?_ ?_
  · intro j H6 hj hP6
    obtain ⟨sm6, hD6⟩ := hP6.un
    exact sm6.seq hls5
  · intro j v H6 hv hP6
    obtain ⟨sm6, hD6⟩ := hP6.un
    rw [List.getElem?_map] at hv
    obtain ⟨x, hx, ev⟩ := Option.map_eq_some_iff.mp hv
    subst ev
    have hxl := htp.2 x (List.mem_of_getElem? hx)
    have hjl : j < t.length := (List.getElem?_eq_some_iff.mp hx).1
    have hul := h3.lu
    have hlm6 := SqL.of (K := K) ((s35.trans sm6) _ _ hlm)
    have hat : atI (u.map vN) ((x : Nat) : Int) = some (vN (u.getD x 0)) := by
      refine at_of (j := x) rfl ?_
      rw [List.getElem?_map, List.getD_eq_getElem?_getD, List.getElem?_eq_getElem (by omega)]
      rfl
    have hsz : (((t.take j).map fun x => u.getD x 0).map vN).length < sizeLine := szm (by rw [List.length_map, List.length_map, List.length_take]; omega)
    walk_at "ev"
    refine .mk ⟨same_mut sm6 hD, ?_⟩
    rw [upd_same, List.take_add_one, hx]
    simp only [List.map_append]
    rfl
  intro H6 hP6
  obtain ⟨sm6, hD6⟩ := hP6.un
  rw [List.length_map, List.take_length] at hD6
  have s36 := s35.trans sm6
  have hlr6 := SqL.of (K := K) (s36 _ _ hlr)
  have hls6 := SqL.of (K := K) (s36 _ _ hls)
  have ht1000 : t.length ≤ 1000 := by omega
  have hxt : (ns.map V.int).length = t.length := by rw [List.length_map, hln, hlt]
  walk_at "ev"
  refine ⟨fun _ p1 ys1 H7 hp1 hn1 sm7 hq7 => ?_, fun c => absurd hxt c⟩
  have hl7 := SqL.of (K := K) hq7
  have hlm7 := SqL.of (K := K) ((s36.trans sm7) _ _ hlm)
  have hup := h3.pu
  have hu1000 : u.length ≤ 1000 := by rw [h3.lu]; omega
  have hyu : ys1.length = u.length := by rw [hp1.1, hlt, h3.lu]
  walk_at "ev"
  refine ⟨fun _ p2 ys2 H8 hp2 hn2 sm8 hq8 => ?_, fun c => absurd hyu c⟩
  obtain ⟨hpc, hpp⟩ := put_comp htp hup (by rw [hlt, h3.lu]) hp1 hp2
  have s68 := sm7.trans sm8
  have hlr8 := SqL.of (K := K) ((s36.trans s68) _ _ hlr)
  have hD8 := SqL.of (K := K) (s68 _ _ hD6)
  have hw1000 : (t.map fun x => u.getD x 0).length ≤ 1000 := by rw [List.length_map]; omega
  have hxw : (ns.map V.int).length = (t.map fun x => u.getD x 0).length := by rw [List.length_map, List.length_map, hln, hlt]
  walk_at "ev"
  refine ⟨fun _ p3 ys3 H9 hp3 hn3 sm9 hq9 => ?_, fun c => absurd hxw c⟩
  have ey : ys3 = ys2 := PutOf.uniq hpp hp3 hpc
  subst ey
  obtain ⟨ks, hks, hkl, _, _⟩ := put_ints hpp (by rw [List.length_map, hln, hlt]) hp3
  rw [hks] at hq9 hq8
  have hd1 := dpi (K := K) (sm9 _ _ hq8)
  have hd2 := dpi (K := K) hq9
  have hft : Fit 2 (.list (ks.map PyData.int)) := fit_up (fiti (by rw [hkl]; omega))
  walk_at "ev"
  intro H10 sm10
  have s310 := s36.trans (s68.trans (sm9.trans sm10))
  walk_at "ev"
  exact fin N ns t u lr ls lm H10 _ _ _ _ _ h3 (s310 _ _ hlr) (s310 _ _ hls) (s310 _ _ hlm) fun H' sm' => q _ (s310.trans sm')
end
section
variable {P : Program} {w : World} {K : PySem.W.Frag} {mg : Str → Option Value} {base : Heap}
theorem right_W {f f1 f2 f3 f4 f5 f6 f7 C : Addr} {d1 d2 d3 d4 d5 d6 d7 : FuncData} {A : Around} {outer : List Env} {s : Shared} {H : Hp} {Q : VK} {E : XK} {cdv : Value} (T : Blt mg) (hgd : A.guards = some []) (hr : Room 5 (A.deeper (PyProof.Rows.envOfC "_law_right" (defScope s__law_right) s.heap.objs.size f cdv)))
    (D__law_same : Df K mg "_law_same" s__law_same P__law_same f1 d1) (D__law_refused : Df K mg "_law_refused" s__law_refused P__law_refused f2 d2) (G__law_refused : FnOk P w K mg base CX0 4 f2 d2 P__law_refused (spRefd K)) (D_put_in_order : Df K mg "put_in_order" s_put_in_order P_put_in_order f3 d3) (G_put_in_order : FnOk P w K mg base (L2.CX P w) 3 f3 d3 P_put_in_order (spPutL K C)) (G_put_in_orderT : FnOk P w K mg base (L2.CX P w) 3 f3 d3 P_put_in_order (spPutT K C)) (D_order_cycles : Df K mg "order_cycles" s_order_cycles P_order_cycles f4 d4) (D_round_from : Df K mg "round_from" s_round_from P_round_from f5 d5)
    (D__law_put : Df K mg "_law_put" s__law_put P__law_put f6 d6) (D_inverse_order : Df K mg "inverse_order" s_inverse_order P_inverse_order f7 d7) :
    ∃ tl, PSs (cxOf CX0 P w K mg base N__law_right "_law_right" (defScope s__law_right) f cdv A outer s H E).nox ((defBody s__law_right).drop 3) tl ∧
      ∀ (N : Nat) (ns : List Int) (t u : List Nat) (lr ls lm : Addr) (H3 : Hp) (x0 : Option V), St3 N ns t u → H3 lr = some (.lst (ns.map V.int)) → H3 ls = some (.lst (t.map vN)) → H3 lm = some (.lst (u.map vN)) → (∀ H', Same H3 H' → Q (.bl true) H') →
        tl { nx := fun _ H' => Q .non H', rt := Q } [x0, some (.int N), some (.ref ls), some (.ref lm), some (.ref lr), none, none, none, none, none, none, none, none, none, none] H3 := by
  have G__law_same : FnOk P w K mg base CX0 3 f1 d1 P__law_same (spSame K 2) := ok_same D__law_same T 2
  have G__law_put : FnOk P w K mg base CX0 1 f6 d6 P__law_put (spLPut K) := ok_lput D__law_put.F T
  have G_inverse_order : FnOk P w K mg base CX0 1 f7 d7 P_inverse_order (spInvOL K) := ok_invOL D_inverse_order.F T
  obtain ⟨tl, htl, fin⟩ := right_V (P := P) (w := w) (base := base) (outer := outer) (H := H) (Q := Q) (E := E) T hgd hr D__law_same D__law_refused G__law_refused D_put_in_order G_put_in_order D_order_cycles D_round_from
  have nd := sc__law_right.nd
  refine ⟨_, (pss_cons (ps_asg (pe_tup (pa_cons (pe_callB (r := rRepG K) (call_reprG hgd hr.units) (by rfl) T.b_repr (by decide +kernel) (pa_cons (pe_lst (pa_cons (pv 4) (pa_cons (pv 2) (pa_cons (pv 3) pa_nil)))) pa_nil)) (pa_cons (pe_call G__law_put (hr.mono (by omega)) (by rfl) D__law_put.g D__law_put.F.kp D__law_put.b .nil pass0 (pa_cons (pv 4) (pa_cons (pv 2) pa_nil))) pa_nil))) (pg_tup (by rfl) (pgs_cons (pg_name (i := 5) nd rfl (Or.inl rfl)) (pgs_cons (pg_name (i := 6) nd rfl (Or.inr rfl)) pgs_nil))))
      (pss_cons (ps_set (i := 7) nd rfl (Or.inl rfl) (pe_lst (pa_cons (pe_call G_put_in_order (hr.mono (by omega)) (by rfl) D_put_in_order.g D_put_in_order.F.kp D_put_in_order.b .nil passL (pa_cons (pv 4) (pa_cons (pv 2) pa_nil))) (pa_cons (pe_call G_put_in_orderT (hr.mono (by omega)) (by rfl) D_put_in_order.g D_put_in_order.F.kp D_put_in_order.b .nil passL (pa_cons (pe_callTy call_tuple_of (by rfl) T.b_tuple (by decide +kernel) (pa_cons (pv 4) pa_nil)) (pa_cons (pe_callTy call_tuple_of (by rfl) T.b_tuple (by decide +kernel) (pa_cons (pv 2) pa_nil)) pa_nil))) (pa_cons (pe_call G_put_in_order (hr.mono (by omega)) (by rfl) D_put_in_order.g D_put_in_order.F.kp D_put_in_order.b .nil passL (pa_cons (pv 4) (pa_cons (pv 2) pa_nil))) pa_nil)))))
      (pss_cons (ps_if (PW.pt (pw_or (pt_not (pt_val (pe_call G__law_same (hr.mono (by omega)) (by rfl) D__law_same.g D__law_same.F.kp D__law_same.b .nil pass0 (pa_cons (pv 7) (pa_cons (pe_op op_rep (pe_lst (pa_cons (pv 6) pa_nil)) (pe_int)) pa_nil))))) (pw_or1 (pt_cmpR op_ne (pe_callB (r := rRepG K) (call_reprG hgd hr.units) (by rfl) T.b_repr (by decide +kernel) (pa_cons (pe_lst (pa_cons (pv 4) (pa_cons (pv 2) (pa_cons (pv 3) pa_nil)))) pa_nil)) (pv 5) (nomark _))))) (pss_one (ps_ret (pe_bl))) pss_nil)
      (pss_cons (ps_expr (pe_bm0 PySem.F.plainAttrs_list PySem.F.slot_list_reverse PySem.F.type_list_reverse mt_reverse (pe_ix (r := rIxL K) ix_list (pv 7) (pe_int) (fun _ _ => rfl))))
      (pss_cons (ps_expr (pe_bm0 PySem.F.plainAttrs_list PySem.F.slot_list_clear PySem.F.type_list_clear mt_clear (pe_ix (r := rIxL K) ix_list (pv 7) (pe_int) (fun _ _ => rfl))))
      (pss_cons (ps_if (pt_not (pt_val (pe_call G__law_same (hr.mono (by omega)) (by rfl) D__law_same.g D__law_same.F.kp D__law_same.b .nil pass0 (pa_cons (pe_lst (pa_cons (pe_ix (r := rIxL K) ix_list (pv 7) (pe_int) (fun _ _ => rfl)) (pa_cons (pe_call G_put_in_order (hr.mono (by omega)) (by rfl) D_put_in_order.g D_put_in_order.F.kp D_put_in_order.b .nil passL (pa_cons (pv 6) (pa_cons (pe_call G_inverse_order (hr.mono (by omega)) (by rfl) D_inverse_order.g D_inverse_order.F.kp D_inverse_order.b .nil pass0 (pa_cons (pv 2) pa_nil)) pa_nil))) pa_nil))) (pa_cons (pe_lst (pa_cons (pv 6) (pa_cons (pv 4) pa_nil))) pa_nil))))) (pss_one (ps_ret (pe_bl))) pss_nil)
      htl)))))), ?_⟩
  intro N ns t u lr ls lm H3 x0 h3 hlr hls hlm q
  have n60 := h3.n60
  have hln := h3.ln
  have hlt := h3.lt
  have htp := h3.pt
  have hsn := h3.shn
  have ht1000 : t.length ≤ 1000 := by omega
  have hxt : (ns.map V.int).length = t.length := by rw [List.length_map, hln, hlt]
  walk_at "ev"
  w_cond _4
  have hd4 : Dp K H4 (.ref l4) (D3 ns t u) := .lst (SqL.of hq4) (.cons (dpi (sm4 _ _ hlr)) (.cons (dpN (sm4 _ _ hls)) (.cons (dpN (sm4 _ _ hlm)) .nil)))
  have hlr4 := SqL.of (K := K) (sm4 _ _ hlr)
  have hls4 := SqL.of (K := K) (sm4 _ _ hls)
  walk_at "ev"
  intro ld ys H5 hput hld0 sm5 hld
  obtain ⟨ms, hms, hml, _, hmg⟩ := put_ints htp (by rw [hln, hlt]) hput
  subst hms
  walk_at "ev"
  w_cond _6
  have hT6 := SqT.of (K := K) hq6
  have s36 := sm4.trans (sm5.trans sm6)
  have hlr6 := SqL.of (K := K) (s36 _ _ hlr)
  have hls6 := SqL.of (K := K) (s36 _ _ hls)
  walk_at "ev"
  refine ⟨fun _ t0 ys0 H7 hp0 ht0 sm7 hq7 => ?_, fun c => absurd hxt c⟩
  have e0 := PutOf.uniq htp hp0 hput
  subst e0
  have s37 := s36.trans sm7
  walk_at "ev"
  refine .inl ⟨SqL.of (s37 _ _ hlr), ?_⟩
  w_cond _8
  walk_at "ev"
  refine .inl ⟨SqL.of ((s37.trans sm8) _ _ hls), ?_⟩
  w_cond _9
  have hA9 := SqT.of (K := K) (sm9 _ _ hq8)
  have hB9 := SqT.of (K := K) hq9
  walk_at "ev"
  refine ⟨fun _ t1 ys1 H10 hp1 ht1 sm10 hq10 => ?_, fun c => absurd hxt c⟩
  have e1 := PutOf.uniq htp hp1 hput
  subst e1
  have s310 := s37.trans (sm8.trans (sm9.trans sm10))
  have hlr10 := SqL.of (K := K) (s310 _ _ hlr)
  have hls10 := SqL.of (K := K) (s310 _ _ hls)
  walk_at "ev"
  refine ⟨fun _ t2 ys2 H11 hp2 ht2 sm11 hq11 => ?_, fun c => absurd hxt c⟩
  have e2 := PutOf.uniq htp hp2 hput
  subst e2
  walk_at "ev"
  w_cond _12
  walk_at "ev"
  w_cond _13
  walk_at "ev"
  w_cond _14
  have hq14' : H14 l14 = some (.lst [.ref ld, .ref ld, .ref ld]) := hq14
  have s1114 := sm12.trans (sm13.trans sm14)
  have g0 := (sm8.trans (sm9.trans (sm10.trans (sm11.trans s1114)))) _ _ hq7
  have g1 := (sm11.trans s1114) _ _ hq10
  have g2 := s1114 _ _ hq11
  have gD := (sm6.trans (sm7.trans (sm8.trans (sm9.trans (sm10.trans (sm11.trans s1114)))))) _ _ hld
  have gT : H14 l12 = some (.lst [.ref t0, .ref t1, .ref t2]) := (sm13.trans sm14) _ _ hq12
  have hd1 : Dp K H14 (.ref l12) (.list (([ms, ms, ms] : List (List Int)).map fun l => .list (l.map PyData.int))) := .lst (SqL.of gT) (.cons (dpi g0) (.cons (dpi g1) (.cons (dpi g2) .nil)))
  have hd2 : Dp K H14 (.ref l14) (.list (([ms, ms, ms] : List (List Int)).map fun l => .list (l.map PyData.int))) := .lst (SqL.of hq14') (.cons (dpi gD) (.cons (dpi gD) (.cons (dpi gD) .nil)))
  have hft : Fit 2 (.list (([ms, ms, ms] : List (List Int)).map fun l => .list (l.map PyData.int))) := fits (by intro l hl; simp only [List.mem_cons, List.not_mem_nil, or_false] at hl; rcases hl with z | z | z <;> rw [z] <;> omega) (by show 3 ≤ 4000; decide)
  walk_at "ev"
  intro H15 sm15
  have s315 := s310.trans (sm11.trans (s1114.trans sm15))
  walk_at "ev"
  w_cond _16
  have s316 := s315.trans sm16
  have hd16 : Dp K H16 (.ref l16) (D3 ns t u) := .lst (SqL.of hq16) (.cons (dpi (s316 _ _ hlr)) (.cons (dpN (s316 _ _ hls)) (.cons (dpN (s316 _ _ hlm)) .nil)))
  have s1416 := sm15.trans sm16
  have a0 := s1416 _ _ g0
  have a1 := s1416 _ _ g1
  have a2 := s1416 _ _ g2
  have aD := s1416 _ _ gD
  have aT := s1416 _ _ gT
  have f0 : H3 t0 = none := s36.free ht0
  have f1' : H3 t1 = none := (s37.trans (sm8.trans sm9)).free ht1
  have n0r : lr ≠ t0 := ne_of_none (s36 _ _ hlr) ht0
  have n0s : ls ≠ t0 := ne_of_none (s36 _ _ hls) ht0
  have n0m : lm ≠ t0 := ne_of_none (s36 _ _ hlm) ht0
  have n0D : ld ≠ t0 := ne_of_none (sm6 _ _ hld) ht0
  have n01 : t1 ≠ t0 := (ne_of_none ((sm8.trans sm9) _ _ hq7) ht1).symm
  have n02 : t2 ≠ t0 := (ne_of_none ((sm8.trans (sm9.trans sm10)) _ _ hq7) ht2).symm
  have n0T : l12 ≠ t0 := (ne_of_none ((sm8.trans (sm9.trans (sm10.trans sm11))) _ _ hq7) hl12).symm
  have s39 := s37.trans (sm8.trans sm9)
  have n1r : lr ≠ t1 := ne_of_none (s39 _ _ hlr) ht1
  have n1s : ls ≠ t1 := ne_of_none (s39 _ _ hls) ht1
  have n1m : lm ≠ t1 := ne_of_none (s39 _ _ hlm) ht1
  have n1D : ld ≠ t1 := ne_of_none ((sm6.trans (sm7.trans (sm8.trans sm9))) _ _ hld) ht1
  have n12 : t2 ≠ t1 := (ne_of_none hq10 ht2).symm
  have n1T : l12 ≠ t1 := (ne_of_none (sm11 _ _ hq10) hl12).symm
  have hLT := SqL.of (K := K) aT
  have at0 : atI [V.ref t0, V.ref t1, V.ref t2] 0 = some (.ref t0) := rfl
  have at1 : atI [V.ref t0, V.ref t1, V.ref t2] 1 = some (.ref t1) := rfl
  have at2 : atI [V.ref t0, V.ref t1, V.ref t2] 2 = some (.ref t2) := rfl
  have ty0 : tyV K "list" (.ref t0) H16 := .inl ⟨rfl, _, SqL.of a0⟩
  walk_at "ev"
  generalize hG : upd H16 t0 _ = H17
  have k17 := (mutO hG).1
  have s317 : Same H3 H17 := by rw [← hG]; exact same_mut s316 f0
  clear hG
  have b1 := k17 _ _ n01 a1
  have b2 := k17 _ _ n02 a2
  have bD := k17 _ _ n0D aD
  have bT := k17 _ _ n0T aT
  have hLT2 := SqL.of (K := K) bT
  have ty1 : tyV K "list" (.ref t1) H17 := .inl ⟨rfl, _, SqL.of b1⟩
  walk_at "ev"
  generalize hG : upd H17 t1 _ = H18
  have k18 := (mutO hG).1
  have s318 : Same H3 H18 := by rw [← hG]; exact same_mut s317 f1'
  clear hG
  have c2 := k18 _ _ n12 b2
  have cD := k18 _ _ n1D bD
  have cT := k18 _ _ n1T bT
  have hLT3 := SqL.of (K := K) cT
  have hls18 := SqL.of (K := K) (s318 _ _ hls)
  have hLD := SqL.of (K := K) cD
  walk_at "ev"
  intro li iv H19 hiv hli sm19 hq19
  have hivp := hiv.isP htp
  have hivl : iv.length ≤ 1000 := by rw [hiv.1]; omega
  have hL19 := SqL.of (K := K) hq19
  have hLD19 := sm19.seq hLD
  have hmi : (ms.map V.int).length = iv.length := by rw [List.length_map, hml, hiv.1]
  walk_at "ev"
  refine ⟨fun _ t5 ys5 H20 hp5 ht5 sm20 hq20 => ?_, fun c => absurd hmi c⟩
  have e5 : ys5 = ns.map V.int := by
    refine PutOf.uniq hivp hp5 ⟨by rw [hxt, hiv.1], fun k j hk => ?_⟩
    have hkl : k < iv.length := (List.getElem?_eq_some_iff.mp hk).1
    rw [hiv.1] at hkl
    obtain ⟨i, hi⟩ := List.mem_iff_getElem?.mp (htp.sur hkl)
    have hik := hiv.2 i k hi
    rw [hk] at hik
    cases hik
    exact (hput.2 j k hi).symm
  subst e5
  walk_at "ev"
  w_cond _21
  walk_at "ev"
  w_cond _22
  have s1822 := sm19.trans (sm20.trans (sm21.trans sm22))
  have s322 := s318.trans s1822
  have hd3 : Dp K H22 (.ref l21) (.list (([ms, ns] : List (List Int)).map fun l => .list (l.map PyData.int))) := .lst (SqL.of (sm22 _ _ hq21)) (.cons (dpi (s1822 _ _ c2)) (.cons (dpi ((sm21.trans sm22) _ _ hq20)) .nil))
  have hd5 : Dp K H22 (.ref l22) (.list (([ms, ns] : List (List Int)).map fun l => .list (l.map PyData.int))) := .lst (SqL.of hq22) (.cons (dpi (s1822 _ _ cD)) (.cons (dpi (s322 _ _ hlr)) .nil))
  have hft2 : Fit 2 (.list (([ms, ns] : List (List Int)).map fun l => .list (l.map PyData.int))) := fits (by intro l hl; simp only [List.mem_cons, List.not_mem_nil, or_false] at hl; rcases hl with z | z <;> rw [z] <;> omega) (by show 2 ≤ 4000; decide)
  walk_at "ev"
  intro H23 sm23
  have s323 := s322.trans sm23
  walk_at "ev"
  exact fin N ns ms t u lr ls lm ld H23 _ _ h3 hput (by rw [hml, hlt]) hmg (s323 _ _ hlr) (s323 _ _ hls) (s323 _ _ hlm) ((s1822.trans sm23) _ _ cD) fun H' sm' => q _ (s323.trans sm')
end
def spRt2 : Sp := fun vs H Q _ => ∃ (b : Addr) (n : Int), vs = [.ref b] ∧ BoxAt H b n ∧ n < 800000 ∧ ∀ H', Keep b H H' → BoxAt H' b (n + 400) → Q (.bl true) H'
section
variable {P : Program} {w : World} {K : PySem.W.Frag} {mg : Str → Option Value} {base : Heap}
theorem ok_rt {f f1 f2 f3 f4 f5 f6 f7 f8 f9 C : Addr} {fd d1 d2 d3 d4 d5 d6 d7 d8 d9 : FuncData} (F : Fun K "_law_right" "_law_right" s__law_right f fd) (T : Blt mg)
    (D__law_same : Df K mg "_law_same" s__law_same P__law_same f1 d1) (D__law_refused : Df K mg "_law_refused" s__law_refused P__law_refused f2 d2) (G__law_refused : FnOk P w K mg base CX0 4 f2 d2 P__law_refused (spRefd K)) (D_put_in_order : Df K mg "put_in_order" s_put_in_order P_put_in_order f3 d3) (G_put_in_order : FnOk P w K mg base (L2.CX P w) 3 f3 d3 P_put_in_order (spPutL K C)) (G_put_in_orderT : FnOk P w K mg base (L2.CX P w) 3 f3 d3 P_put_in_order (spPutT K C)) (D_order_cycles : Df K mg "order_cycles" s_order_cycles P_order_cycles f4 d4) (D_round_from : Df K mg "round_from" s_round_from P_round_from f5 d5)
    (D__law_put : Df K mg "_law_put" s__law_put P__law_put f6 d6) (D_inverse_order : Df K mg "inverse_order" s_inverse_order P_inverse_order f7 d7) (D__law_take : Df K mg "_law_take" s__law_take P__law_take f8 d8) (D__law_shuffled : Df K mg "_law_shuffled" s__law_shuffled P__law_shuffled f9 d9) : FnG P w K mg base CX0 6 f fd P__law_right spRt2 := by
  have G__law_take : FnOk P w K mg base CX0 1 f8 d8 P__law_take spTake := ok_take D__law_take.F
  have G__law_shuffled : FnOk P w K mg base CX0 2 f9 d9 P__law_shuffled spShuf := ok_shuf (k := 0) D__law_shuffled.F T D__law_take
  have nd := sc__law_right.nd
  refine okG F sc__law_right (fun vs H Q E h => ?_) (fun cdv A outer s H vs Q E hgd hr h => ?_)
  · obtain ⟨b, n, rfl, _⟩ := h
    rfl
  · obtain ⟨b, n, rfl, hb, hn, q⟩ := h
    obtain ⟨tl, htl, fin⟩ := right_W (P := P) (w := w) (base := base) (outer := outer) (H := H) (Q := Q) (E := E) T hgd hr D__law_same D__law_refused G__law_refused D_put_in_order G_put_in_order G_put_in_orderT D_order_cycles D_round_from D__law_put D_inverse_order
    refine ⟨_, (pss_cons (ps_set (i := 1) nd rfl (Or.inl rfl) (pe_ix (r := rIxL K) ix_list (pe_lst (pa_cons (pe_int) (pa_cons (pe_int) (pa_cons (pe_op op_add (pe_int) (pe_call G__law_take (hr.mono (by omega)) (by rfl) D__law_take.g D__law_take.F.kp D__law_take.b .nil pass0 (pa_cons (pv 0) (pa_cons (pe_int) pa_nil)))) (pa_cons (pe_op op_add (pe_int) (pe_call G__law_take (hr.mono (by omega)) (by rfl) D__law_take.g D__law_take.F.kp D__law_take.b .nil pass0 (pa_cons (pv 0) (pa_cons (pe_int) pa_nil)))) pa_nil))))) (pe_call G__law_take (hr.mono (by omega)) (by rfl) D__law_take.g D__law_take.F.kp D__law_take.b .nil pass0 (pa_cons (pv 0) (pa_cons (pe_int) pa_nil))) (fun _ _ => rfl)))
      (pss_cons (ps_asg (pe_tup (pa_cons (pe_call G__law_shuffled (hr.mono (by omega)) (by rfl) D__law_shuffled.g D__law_shuffled.F.kp D__law_shuffled.b .nil pass0 (pa_cons (pv 0) (pa_cons (pv 1) pa_nil))) (pa_cons (pe_call G__law_shuffled (hr.mono (by omega)) (by rfl) D__law_shuffled.g D__law_shuffled.F.kp D__law_shuffled.b .nil pass0 (pa_cons (pv 0) (pa_cons (pv 1) pa_nil))) pa_nil))) (pg_tup (by rfl) (pgs_cons (pg_name (i := 2) nd rfl (Or.inl rfl)) (pgs_cons (pg_name (i := 3) nd rfl (Or.inr rfl)) pgs_nil))))
      (pss_cons (ps_set (i := 4) nd rfl (Or.inr rfl) (pe_lc (own := [("_law_k", 12)]) (g := gName 12) (by rfl) nd (pi_range1 (by rfl) T.b_range (pa_cons (pv 1) pa_nil)) (blkOk_by (own := [("_law_k", 12)]) (N := N__law_right) (sc := defScope s__law_right) (by decide +kernel)) (fun _ _ _ _ _ => (pg_name (i := 12) nd rfl (Or.inl rfl))) (fun _ _ _ _ _ => pts_nil) (fun _ _ _ _ _ => (pe_ix (r := rIxL K) ix_list (pe_lst (pa_cons (pe_call G__law_take (hr.mono (by omega)) (by rfl) D__law_take.g D__law_take.F.kp D__law_take.b .nil pass0 (pa_cons (pv 0) (pa_cons (pe_int) pa_nil))) (pa_cons (pe_call G__law_take (hr.mono (by omega)) (by rfl) D__law_take.g D__law_take.F.kp D__law_take.b .nil pass0 (pa_cons (pv 0) (pa_cons (pe_int) pa_nil))) pa_nil))) (pe_call G__law_take (hr.mono (by omega)) (by rfl) D__law_take.g D__law_take.F.kp D__law_take.b .nil pass0 (pa_cons (pv 0) (pa_cons (pe_int) pa_nil))) (fun _ _ => rfl)))))
      htl))), ?_⟩
    walk_at "ev"
    intro r1 H1 r10 r11 k1 hb1
    walk_at "ev"
    intro r2 H2 r20 r21 k2 hb2
    walk_at "ev"
    w_cond _3
    have hb3 := hb2.same sm3
    have n3b := hb2.ne hl3
    walk_at "ev"
    intro r4 H4 r40 r41 k4 hb4
    have hL4 := SqL.of (K := K) (k4 _ _ n3b hq3)
    obtain ⟨N, hN, hat⟩ : ∃ N : Nat, (1 ≤ N ∧ N ≤ 60) ∧ atI [V.int 1, V.int 2, V.int (1 + r1), V.int (1 + r2)] r4 = some (.int (N : Int)) := by
      have : r4 = 0 ∨ r4 = 1 ∨ r4 = 2 ∨ r4 = 3 := by omega
      rcases this with z | z | z | z <;> subst z
      · exact ⟨1, by decide, rfl⟩
      · exact ⟨2, by decide, rfl⟩
      · obtain ⟨m, hm⟩ := Int.eq_ofNat_of_zero_le (show 0 ≤ 1 + r1 by omega)
        exact ⟨m, by omega, by rw [← hm]; rfl⟩
      · obtain ⟨m, hm⟩ := Int.eq_ofNat_of_zero_le (show 0 ≤ 1 + r2 by omega)
        exact ⟨m, by omega, by rw [← hm]; rfl⟩
    obtain ⟨N1, N60⟩ := hN
    walk_at "ev"
    intro ls t H5 htp htl0 hls0 k5 hb5 hls
    walk_at "ev"
    intro lm u H6 hup hul hlm0 k6 hb6 hlm
    have hls6 := k6 _ _ (hb4.ne hls0) hls
    walk_at "ev"
    w_cond _7
    have hT7 := SqT.of (K := K) hq7
    have hls7 := sm7 _ _ hls6
    have hlm7 := sm7 _ _ hlm
    have hb7 := hb6.same sm7
    have kH7 : Keep b H H7 := k1.trans (k2.trans ((keepS sm3).trans (k4.trans (k5.trans (k6.trans (keepS sm7))))))
    walk_at "ev"
    intro D hD
    have nDb := hb7.ne hD
    refine lc_range (lo := 0) (n := _) (fun j H' => Hold (∃ ns : List Int, ns.length = j ∧ (∀ x ∈ ns, -1000000 ≤ x ∧ x ≤ 1000000) ∧ Keep b H7 H' ∧ BoxAt H' b (n + 143 + 3 * (j : Int)) ∧ H' D = some (.lst (ns.map V.int)))) (.mk ⟨[], rfl, fun x hx => (by cases hx), keepS (same_new hD), (hb7.upd nDb).mono (by omega), upd_same⟩) ?_ ?_
    · intro j H8 hj hP
      obtain ⟨ns, hnl, hnb, k8, b8, hD8⟩ := hP.un
      have hj60 : j < 60 := by omega
      walk_at "ev"
      intro r9 H9 r90 r91 k9 b9
      walk_at "ev"
      intro r10 H10 r100 r101 k10 b10
      walk_at "ev"
      w_cond _11
      have b11 := b10.same sm11
      have n11b := b10.ne hl11
      walk_at "ev"
      intro r12 H12 r120 r121 k12 b12
      have hL12 := SqL.of (K := K) (k12 _ _ n11b hq11)
      obtain ⟨x, hx, hat2⟩ : ∃ x : Int, (-1000000 ≤ x ∧ x ≤ 1000000) ∧ atI [V.int r9, V.int r10] r12 = some (.int x) := by
        have : r12 = 0 ∨ r12 = 1 := by omega
        rcases this with z | z <;> subst z
        · exact ⟨r9, by omega, rfl⟩
        · exact ⟨r10, by omega, rfl⟩
      have hD12 := k12 _ _ nDb (sm11 _ _ (k10 _ _ nDb (k9 _ _ nDb hD8)))
      walk_at "ev"
      refine .mk ⟨ns ++ [x], by rw [List.length_append, hnl]; rfl, fun y hy => ?_, keep_fresh (k8.trans (k9.trans (k10.trans ((keepS sm11).trans k12)))) hD, (b12.upd nDb).mono (by omega), ?_⟩
      · rcases List.mem_append.mp hy with z | z
        · exact hnb y z
        · rw [List.mem_singleton.mp z]
          exact hx
      · rw [upd_same, List.map_append]
        rfl
    · intro H8 hP
      obtain ⟨ns, hnl, hnb, k8, b8, hD8⟩ := hP.un
      have hN8 : ns.length = N := by omega
      walk_at "ev"
      refine fin N ns t u D ls lm H8 _ ⟨N1, N60, hN8, htl0, hul, htp, hup, hnb⟩ hD8 (k8 _ _ (hb4.ne hls0) hls7) (k8 _ _ (hb5.ne hlm0) hlm7) fun H9 sm9 => ?_
      exact q _ (kH7.trans (k8.trans (keepS sm9))) ((b8.same sm9).mono (by omega))
end
theorem ned_ints {K : PySem.W.Frag} {H : Hp} {a b : Addr} {ns ms : List Int} {Q : VK} (ha : SqL K H a (ns.map V.int)) (hb : SqL K H b (ms.map V.int)) (q : Q (.bl (!decide (ns = ms))) H) : rNeD K (.ref a) (.ref b) H Q := by
  refine ⟨_, _, .lst ha (dp_ints ns), .lst hb (dp_ints ms), PySem.W.ke_shaped_ints ns, PySem.W.ke_shaped_ints ms, ?_⟩
  have e : PyData.eqv (.list (ns.map PyData.int)) (.list (ms.map PyData.int)) = decide (ns = ms) := by
    rw [PyData.eqv]
    exact eqv_ints ns ms
  rw [e]
  exact q
abbrev s__law_folded : Stmt := top 13
abbrev N__law_folded : List Str := ["_law_script", "_law_count", "_law_cells", "_law_k", "_law_cell"]
abbrev P__law_folded : List Str := ["_law_script", "_law_count"]
theorem sc__law_folded : FnScope N__law_folded P__law_folded (defScope s__law_folded) := ⟨rfl, rfl, rfl, by decide +kernel, rfl, by decide +kernel, by decide +kernel⟩
def spFold (K : PySem.W.Frag) : Sp := fun vs H Q _ => ∃ (a : Addr) (ns : List Int), vs = [.ref a, .int 4] ∧ SqL K H a (ns.map V.int) ∧ ns.length ≤ 63 ∧ ∀ p (cs : List Int) H', 1 ≤ cs.length → cs.length ≤ 4 → H p = none → Same H H' → H' p = some (.lst (cs.map V.int)) → Q (.ref p) H'
section
variable {P : Program} {w : World} {K : PySem.W.Frag} {mg : Str → Option Value} {base : Heap}
theorem ok_fold {f : Addr} {fd : FuncData} {k : Nat} (F : Fun K "_law_folded" "_law_folded" s__law_folded f fd) (T : Blt mg) : FnOk P w K mg base CX0 (k + 1) f fd P__law_folded (spFold K) := by
  have nd := sc__law_folded.nd
  refine F.ok sc__law_folded (fun vs H Q E h => ?_) (fun cdv A outer s H vs Q E hr h => ?_)
  · obtain ⟨a, ns, rfl, _⟩ := h
    rfl
  · obtain ⟨a, ns, rfl, hL, hlen, q⟩ := h
    refine ⟨_, (pss_cons (ps_set (i := 2) nd rfl (Or.inl rfl) (pe_callTy call_list_of (by rfl) T.b_list (by decide +kernel) (pa_cons (pe_slice (r := rSlL K) sl_list (pv 0) po_none (po_some (pv 1))) pa_nil)))
      (pss_cons (ps_for PassesOwn.never rfl (pi_enum (by rfl) T.b_enumerate (pa_cons (pe_slice (r := rSlL K) sl_list (pv 0) (po_some (pv 1)) (po_some (pe_int))) pa_nil)) (pg_tup (by rfl) (pgs_cons (pg_name (i := 3) nd rfl (Or.inl rfl)) (pgs_cons (pg_name (i := 4) nd rfl (Or.inl rfl)) pgs_nil)))
      (pss_one (ps_asg (pe_op op_add (pe_ix (r := rIxL K) ix_list (pv 2) (pe_op op_mod (pv 3) (pv 1)) (fun _ _ => rfl)) (pe_op op_mul (pv 4) (pe_op op_add (pv 3) (pe_int)))) (pg_sub (pv 2) (pe_op op_mod (pv 3) (pv 1)) set_list))))
      (pss_one (ps_ret (pe_ifExp (pt_cmpR (r := rNeD K) (op_neD hr.units) (pv 2) (pe_lst pa_nil) (nomark _)) (pv 2) (pe_lst (pa_cons (pe_int) pa_nil))))))), ?_⟩
    have e1 : cutV (ns.map V.int) none (some 4) = (ns.take (min 4 ns.length)).map V.int := by
      rw [List.map_take]
      have : cutV (ns.map V.int) none (some 4) = (ns.map V.int).take (min 4 (ns.map V.int).length) := rfl
      rw [this, List.length_map]
    have e2 : cutV (ns.map V.int) (some 4) (some 63) = ((ns.drop (min 4 ns.length)).take (min 63 ns.length - min 4 ns.length)).map V.int := by
      rw [List.map_take, List.map_drop]
      have : cutV (ns.map V.int) (some 4) (some 63) = ((ns.map V.int).drop (min 4 (ns.map V.int).length)).take (min 63 (ns.map V.int).length - min 4 (ns.map V.int).length) := rfl
      rw [this, List.length_map]
    have hl0 : (ns.take (min 4 ns.length)).length = min 4 ns.length := by rw [List.length_take]; omega
    have hl9 : ((ns.drop (min 4 ns.length)).take (min 63 ns.length - min 4 ns.length)).length = ns.length - min 4 ns.length := by
      rw [List.length_take, List.length_drop]
      omega
    generalize (ns.drop (min 4 ns.length)).take (min 63 ns.length - min 4 ns.length) = ms at *
    generalize ns.take (min 4 ns.length) = c0 at *
    walk_at "ev"
    intro p1 hp1
    generalize hG : upd _ p1 _ = H1
    obtain ⟨sm1, hq1⟩ := newO hG hp1
    clear hG
    rw [e1] at hq1
    have hl1 : SqL K H1 p1 (c0.map V.int) ∨ SqT K H1 p1 (c0.map V.int) := .inl (SqL.of hq1)
    walk_at "ev"
    intro p2 hp2
    generalize hG : upd _ p2 _ = H2
    obtain ⟨sm2, hq2⟩ := newO hG hp2
    clear hG
    have sm02 := sm1.trans sm2
    have hL2 := sm02.seq hL
    have hp20 : H p2 = none := sm1.free hp2
    walk_at "ev"
    intro p3 hp3
    generalize hG : upd _ p3 _ = H3
    obtain ⟨sm3, hq3⟩ := newO hG hp3
    clear hG
    rw [e2] at hq3
    have hL3 : SqL K H3 p3 (ms.map V.int) := SqL.of hq3
    have n32 : p3 ≠ p2 := (ne_of_none hq2 hp3).symm
    refine ⟨p3, _, rfl, hL3, for_enumL (K := K) (a := p3) (xs := ms.map V.int) (fun i σ H' => Hold (∃ (cs : List Int) (s3 s4 : Option V), σ = [some (.ref a), some (.int 4), some (.ref p2), s3, s4] ∧ cs.length = min 4 ns.length ∧ Same H H' ∧ H' p3 = some (.lst (ms.map V.int)) ∧ H' p2 = some (.lst (cs.map V.int)))) (.mk ⟨c0, none, none, rfl, hl0, sm02.trans sm3, hq3, sm3 _ _ hq2⟩) ?_ ?_ ?_⟩
    · intro i σ H4 hP
      obtain ⟨cs, s3, s4, rfl, hcl, sm4, h3, h2⟩ := hP.un
      exact SqL.of h3
    · intro i v T' σ H4 hv hP hT
      obtain ⟨cs, s3, s4, rfl, hcl, sm4, h3, h2⟩ := hP.un
      rw [List.getElem?_map] at hv
      obtain ⟨x, hx, ev⟩ := Option.map_eq_some_iff.mp hv
      subst ev
      have hil : i < ms.length := (List.getElem?_eq_some_iff.mp hx).1
      have hc4 : cs.length = 4 := by omega
      generalize hG : upd _ T' _ = H5
      obtain ⟨sm5, hq5⟩ := newO hG hT
      clear hG
      have hT5 : SqT K H5 T' [.int (i : Nat), .int x] := SqT.of hq5
      have h25 := sm5 _ _ h2
      have hL25 : SqL K H5 p2 (cs.map V.int) := SqL.of h25
      have hi4 : i % 4 < cs.length := by omega
      have hat : atI (cs.map V.int) ((i : Int) % 4) = some (.int cs[i % 4]) := at_of (j := i % 4) (by omega) (by rw [List.getElem?_map, List.getElem?_eq_getElem hi4]; rfl)
      have cm : CMul x ((i : Int) + 2) := .inr ⟨by omega, by omega⟩
      have hix : ixN (cs.map V.int).length ((i : Int) % 4) = some (i % 4) := ixn_of (by rw [List.length_map]; exact hi4) (by omega)
      walk_at "ev"
      refine .mk ⟨cs.set (i % 4) (cs[i % 4] + x * ((i : Int) + 2)), _, _, rfl, by rw [List.length_set]; exact hcl, same_mut (sm4.trans sm5) hp20, ?_, ?_⟩
      · rw [upd_ne n32]
        exact sm5 _ _ h3
      · rw [upd_same, List.map_set]
    · intro σ H4 hP
      obtain ⟨cs, s3, s4, rfl, hcl, sm4, h3, h2⟩ := hP.un
      walk_at "ev"
      intro p5 hp5
      generalize hG : upd _ p5 _ = H5
      obtain ⟨sm5, hq5⟩ := newO hG hp5
      clear hG
      have h25 := sm5 _ _ h2
      refine ned_ints (ns := cs) (ms := []) (SqL.of h25) (SqL.of hq5) ?_
      by_cases c : cs = []
      · rw [decide_eq_true c]
        walk_at "ev"
        intro p6 hp6
        generalize hG : upd _ p6 _ = H6
        obtain ⟨sm6, hq6⟩ := newO hG hp6
        exact q p6 [0] _ (by decide) (by decide) ((sm4.trans sm5).free hp6) (sm4.trans (sm5.trans sm6)) hq6
      · rw [decide_eq_false c]
        have hc1 : 0 < cs.length := List.length_pos_iff.mpr c
        walk_at "ev"
        exact q p2 cs _ (by omega) (by omega) hp20 (sm4.trans sm5) h25
end
abbrev s_law : Stmt := top 19
abbrev N_law : List Str := ["_law_script", "_law_cells", "_law_k", "_law_box_here", "_law_turn"]
abbrev P_law : List Str := ["_law_script"]
theorem sc_law : FnScope N_law P_law (defScope s_law) := ⟨rfl, rfl, rfl, by decide +kernel, rfl, by decide +kernel, by decide +kernel⟩
def spLaw (K : PySem.W.Frag) : Sp := fun vs H Q _ => ∃ (a : Addr) (ns : List Int), vs = [.ref a] ∧ SqL K H a (ns.map V.int) ∧ ns.length ≤ 63 ∧ ∀ H', Q (.bl true) H'
structure Fns (P : Program) (w : World) (K : PySem.W.Frag) (mg : Str → Option Value) (base : Heap) : Prop where
  x0 : ∃ f fd, Df K mg "inverse_order" s_inverse_order P_inverse_order f fd
  x1 : ∃ f fd, Df K mg "put_in_order" s_put_in_order P_put_in_order f fd
  x2 : ∃ f fd, Df K mg "round_from" s_round_from P_round_from f fd
  x3 : ∃ f fd, Df K mg "order_cycles" s_order_cycles P_order_cycles f fd
  x4 : ∃ f fd, Df K mg "_law_box" s__law_box P__law_box f fd
  x5 : ∃ f fd, Df K mg "_law_take" s__law_take P__law_take f fd
  x6 : ∃ f fd, Df K mg "_law_folded" s__law_folded P__law_folded f fd
  x7 : ∃ f fd, Df K mg "_law_same" s__law_same P__law_same f fd
  x8 : ∃ f fd, Df K mg "_law_shuffled" s__law_shuffled P__law_shuffled f fd
  x9 : ∃ f fd, Df K mg "_law_put" s__law_put P__law_put f fd
  x10 : ∃ f fd, Df K mg "_law_refused" s__law_refused P__law_refused f fd
  x11 : ∃ f fd, Df K mg "_law_right" s__law_right P__law_right f fd
structure Exs (K : PySem.W.Frag) (mg : Str → Option Value) (fI : Addr) (fdI : FuncData) (CT CB CO CS : Addr) : Prop where
  F : Fun K "__init__" "TurnError.__init__" s_init fI fdI
  b : Binds K fdI N_init []
  ty : PySem.W.typeIn K (.ref fI) = some (.type "function")
  rb : Ref K CT CB fI
  mt : mg "TurnError" = some (.ref CT)
  mb : mg "BadLength" = some (.ref CB)
  mo : mg "BadOrder" = some (.ref CO)
  ms : mg "BadStep" = some (.ref CS)
  bb : PySem.W.kitOne K (.ref CB) (.ref CB) = some true
  ba : PySem.W.kitAny K (.ref CB) [.ref CO, .ref CS] = some false
section
variable {P : Program} {w : World} {K : PySem.W.Frag} {mg : Str → Option Value} {base : Heap}
theorem ok_law {f fI CT CB CO CS : Addr} {fd fdI : FuncData} (F : Fun K "law" "law" s_law f fd) (T : Blt mg) (U : Fns P w K mg base) (e : Exs K mg fI fdI CT CB CO CS) : FnG P w K mg base CX0 7 f fd P_law (spLaw K) := by
  obtain ⟨⟨f0, d0, D_inverse_order⟩, ⟨f1, d1, D_put_in_order⟩, ⟨f2, d2, D_round_from⟩, ⟨f3, d3, D_order_cycles⟩, ⟨f4, d4, D__law_box⟩, ⟨f5, d5, D__law_take⟩, ⟨f6, d6, D__law_folded⟩, ⟨f7, d7, D__law_same⟩, ⟨f8, d8, D__law_shuffled⟩, ⟨f9, d9, D__law_put⟩, ⟨f10, d10, D__law_refused⟩, ⟨f11, d11, D__law_right⟩⟩ := U
  have x : XI K fI fdI := ⟨e.F, e.b, e.ty⟩
  have G__law_box : FnOk P w K mg base CX0 1 f4 d4 P__law_box (spBox K) := ok_box D__law_box.F T
  have G__law_folded : FnOk P w K mg base CX0 1 f6 d6 P__law_folded (spFold K) := ok_fold D__law_folded.F T
  have G_put : FnOk P w K mg base (L2.CX P w) 3 f1 d1 P_put_in_order (spPutL K CB) := ok_putL (k := 0) D_put_in_order.F T D_inverse_order x e.rb e.mb
  have G_putT : FnOk P w K mg base (L2.CX P w) 3 f1 d1 P_put_in_order (spPutT K CB) := ok_putT (k := 0) D_put_in_order.F T D_inverse_order x e.rb e.mb
  have G_ref : FnOk P w K mg base CX0 4 f10 d10 P__law_refused (spRefd K) := ok_refd (k := 0) D__law_refused.F T D_put_in_order G_put e.rb e.mb e.mo e.ms e.mt e.bb e.ba
  have G__law_right : FnG P w K mg base CX0 6 f11 d11 P__law_right spRt2 := ok_rt D__law_right.F T D__law_same D__law_refused G_ref D_put_in_order G_put G_putT D_order_cycles D_round_from D__law_put D_inverse_order D__law_take D__law_shuffled
  have nd := sc_law.nd
  refine okG F sc_law (fun vs H Q E h => ?_) (fun cdv A outer s H vs Q E hgd hr h => ?_)
  · obtain ⟨a, ns, rfl, _⟩ := h
    rfl
  · obtain ⟨a, ns, rfl, hS, hlen, q⟩ := h
    refine ⟨_, (pss_cons (ps_set (i := 1) nd rfl (Or.inl rfl) (pe_call G__law_folded (hr.mono (by omega)) (by rfl) D__law_folded.g D__law_folded.F.kp D__law_folded.b .nil pass0 (pa_cons (pv 0) (pa_cons (pe_int) pa_nil))))
      (pss_cons (ps_for PassesOwn.never rfl (pi_range1 (by rfl) T.b_range (pa_cons (pe_callB (r := rLenQ K) call_len_seq (by rfl) T.b_len (by decide +kernel) (pa_cons (pv 1) pa_nil)) pa_nil)) (pg_name (i := 2) nd rfl (Or.inl rfl))
      (pss_cons (ps_set (i := 3) nd rfl (Or.inr rfl) (pe_call G__law_box (hr.mono (by omega)) (by rfl) D__law_box.g D__law_box.F.kp D__law_box.b .nil pass0 (pa_cons (pv 1) (pa_cons (pv 2) pa_nil))))
      (pss_one (ps_if (pt_not (pt_val (pe_callB (r := rAll K) (cr_all rfl) (by rfl) T.b_all (by decide +kernel) (pa_cons (pe_lc (own := [("_law_turn", 4)]) (g := gName 4) (by rfl) nd (pi_range1 (by rfl) T.b_range (pa_cons (pe_int) pa_nil)) (blkOk_by (own := [("_law_turn", 4)]) (N := N_law) (sc := defScope s_law) (by decide +kernel)) (fun _ _ _ _ _ => (pg_name (i := 4) nd rfl (Or.inl rfl))) (fun _ _ _ _ _ => pts_nil) (fun _ _ _ _ _ => (pe_callG G__law_right hgd (hr.mono (by omega)) (by rfl) D__law_right.g D__law_right.F.kp D__law_right.b .nil pass0 (pa_cons (pv 3) pa_nil)))) pa_nil)))) (pss_one (ps_ret (pe_bl))) pss_nil))))
      (pss_one (ps_ret (pe_bl))))), ?_⟩
    walk_at "ev"
    intro ce cs H1 hc1 hc4 hce0 sm1 hce
    have hLc : SqL K H1 ce (cs.map V.int) := SqL.of hce
    walk_at "ev"
    refine for_range (lo := 0) (n := _) (fun i σ H' => Hold (∃ s2 s3, σ = [some (.ref a), some (.ref ce), s2, s3, none] ∧ Same H1 H')) (.mk ⟨none, none, rfl, Same.refl _⟩) ?_ ?_
    · intro i σ H2 hi hP
      obtain ⟨s2, s3, rfl, sm2⟩ := hP.un
      have hi4 : i < 5 := by
        have : ((cs.map V.int).length : Int).toNat = cs.length := by rw [List.length_map]; rfl
        omega
      have hLc2 := sm2.seq hLc
      walk_at "ev"
      intro b H3 hb0 sm3 hbx
      have hbf : H1 b = none := sm2.free hb0
      walk_at "ev"
      intro D hD
      have nDb := hbx.ne hD
      refine lc_range (lo := 0) (n := _) (fun j H' => Hold (Keep b H3 H' ∧ BoxAt H' b (400 * (j : Int)) ∧ H' D = some (.lst ((List.replicate j true).map V.bl)))) (.mk ⟨keepS (same_new hD), (hbx.upd nDb).mono (by omega), upd_same⟩) ?_ ?_
      · intro j H4 hj hP4
        obtain ⟨k4, b4, hD4⟩ := hP4.un
        have hj5 : j < 100 := by
          have : j < 3 := hj
          omega
        walk_at "ev"
        intro H5 k5 b5
        have hD5 := k5 _ _ nDb hD4
        refine ⟨_, hD5, szm (by rw [List.length_map, List.length_replicate]; omega), .mk ⟨keep_fresh (k4.trans k5) hD, (b5.upd nDb).mono (by omega), ?_⟩⟩
        rw [upd_same, List.replicate_succ', List.map_append]
        rfl
      · intro H4 hP4
        obtain ⟨k4, b4, hD4⟩ := hP4.un
        refine ⟨D, _, rfl, SqL.of hD4, ?_⟩
        rw [all_true]
        walk_at "ev"
        exact .mk ⟨_, _, rfl, keep_same (sm2.trans sm3) hbf k4⟩
    · intro σ H2 hP
      obtain ⟨s2, s3, rfl, sm2⟩ := hP.un
      walk_at "ev"
      exact q _
end
theorem all_mk {l : PySem.W.OpenLaw} {w : World} {K : PySem.W.Frag} {h : Heap} {mg : Str → Option Value} {fa : Addr} (X : K.In h) (G : h.Ns mainGlobals mg) (hfa : mg "law" = some (.ref fa))
    {od0 an0 : Option Addr} {sl0 : Array (Option Value)} {oc0 kV0 dc0 pm0 cd0 ct0 : Value} {f0 : Addr}
    {od1 an1 : Option Addr} {sl1 : Array (Option Value)} {oc1 kV1 dc1 pm1 cd1 ct1 : Value} {f1 : Addr}
    {od2 an2 : Option Addr} {sl2 : Array (Option Value)} {oc2 kV2 dc2 pm2 cd2 ct2 : Value} {f2 : Addr}
    {od3 an3 : Option Addr} {sl3 : Array (Option Value)} {oc3 kV3 dc3 pm3 cd3 ct3 : Value} {f3 : Addr}
    {od4 an4 : Option Addr} {sl4 : Array (Option Value)} {oc4 kV4 dc4 pm4 cd4 ct4 : Value} {f4 : Addr}
    {od5 an5 : Option Addr} {sl5 : Array (Option Value)} {oc5 kV5 dc5 pm5 cd5 ct5 : Value} {f5 : Addr}
    {od6 an6 : Option Addr} {sl6 : Array (Option Value)} {oc6 kV6 dc6 pm6 cd6 ct6 : Value} {f6 : Addr}
    {od7 an7 : Option Addr} {sl7 : Array (Option Value)} {oc7 kV7 dc7 pm7 cd7 ct7 : Value} {f7 : Addr}
    {od8 an8 : Option Addr} {sl8 : Array (Option Value)} {oc8 kV8 dc8 pm8 cd8 ct8 : Value} {f8 : Addr}
    {od9 an9 : Option Addr} {sl9 : Array (Option Value)} {oc9 kV9 dc9 pm9 cd9 ct9 : Value} {f9 : Addr}
    {od10 an10 : Option Addr} {sl10 : Array (Option Value)} {oc10 kV10 dc10 pm10 cd10 ct10 : Value} {f10 : Addr}
    {od11 an11 : Option Addr} {sl11 : Array (Option Value)} {oc11 kV11 dc11 pm11 cd11 ct11 : Value} {f11 : Addr}
    {od12 an12 : Option Addr} {sl12 : Array (Option Value)} {oc12 kV12 dc12 pm12 cd12 ct12 : Value} {f12 : Addr}
    {fI : Addr} {odI anI : Option Addr} {slI : Array (Option Value)} {ocI kVI dcI pmI cdI ctI : Value}
    {C_TurnError : Addr}
    {C_BadLength : Addr}
    {C_BadOrder : Addr}
    {C_BadStep : Addr}
    {nm_BadLength q_BadLength : Str} {N_BadLength : Addr} {bs_BadLength : List Value} {sn_BadLength : List Str} {sb_BadLength : List Value} {ab_BadLength : Bool} {co_BadLength : Option Bool} {dd_BadLength : Option Addr} {m0_BadLength m1_BadLength m2_BadLength m3_BadLength m5_BadLength : Option Value}
    (g_TurnError : PySem.W.nsIn K mainGlobals "TurnError" = some (some (.ref C_TurnError)))
    (g_BadLength : PySem.W.nsIn K mainGlobals "BadLength" = some (some (.ref C_BadLength)))
    (g_BadOrder : PySem.W.nsIn K mainGlobals "BadOrder" = some (some (.ref C_BadOrder)))
    (g_BadStep : PySem.W.nsIn K mainGlobals "BadStep" = some (some (.ref C_BadStep)))
    (on : PySem.W.specialIn K (.builtin "object.__class__") "__get__" = some (some (.builtin "getset_descriptor.__get__")))
    (ot : PySem.W.takesIn K (.builtin "object.__class__") = some true)
    (eT : PySem.W.subIn K (.ref C_TurnError) (.type "BaseException") = some true)
    (hT : PySem.W.hasDictIn K C_TurnError = true)
    (tT : PySem.W.typeIn K (.ref C_TurnError) = some (.type "type"))
    (xL_BadLength : K.lookup C_BadLength = some (excClassObj nm_BadLength q_BadLength C_BadLength N_BadLength bs_BadLength [.ref C_TurnError, .type "ValueError", .type "Exception", .type "BaseException", .type "object"] true sn_BadLength sb_BadLength ab_BadLength co_BadLength dd_BadLength m0_BadLength m1_BadLength m2_BadLength m3_BadLength m5_BadLength "ValueError.__new__"))
    (sa_BadLength : PySem.W.findIn K (.ref C_BadLength) "__setattr__" = some (some (.builtin "object.__setattr__")))
    (ga_BadLength : PySem.W.findIn K (.ref C_BadLength) "__getattribute__" = some (some (.builtin "BaseException.__getattribute__")))
    (gg_BadLength : PySem.W.findIn K (.ref C_BadLength) "__getattr__" = some none)
    (nw_BadLength : PySem.W.findIn K (.ref C_BadLength) "what" = some none)
    (ii_BadLength : PySem.W.findIn K (.ref C_BadLength) "__init__" = some (some (.ref fI)))
    (oc_BadLength : PySem.W.findIn K (.ref C_BadLength) "__class__" = some (some (.builtin "object.__class__")))
    (kC_BadLength : PySem.W.keepIn K (.ref C_BadLength) = true)
    (eC_BadLength : PySem.W.subIn K (.ref C_BadLength) (.type "BaseException") = some true)
    (tC_BadLength : PySem.W.typeIn K (.ref C_BadLength) = some (.type "type"))
    (hC_BadLength : PySem.W.hasDictIn K C_BadLength = true)
    (mo_BadLength : PySem.W.mroIn K C_BadLength (.type "object") = some true)
    (su_BadLength : PySem.W.subIn K (.ref C_BadLength) (.ref C_TurnError) = some true)
    (kv_BadLength : PySem.W.kitOne K (.ref C_BadLength) (.type "ValueError") = some true)
    (kt_BadLength : PySem.W.kitOne K (.ref C_BadLength) (.ref C_TurnError) = some true)
    (lI : K.lookup fI = some ⟨ocI, odI, .func (PySem.W.fnOf "__init__" "TurnError.__init__" (defArgs s_init) (defBody s_init) (defScope s_init) .none kVI dcI pmI anI cdI ctI), slI⟩)
    (cI : PySem.W.codeIn K cdI "TurnError.__init__" = true)
    (kI : PySem.W.keepIn K (.ref fI) = true)
    (tI : PySem.W.typeIn K (.ref fI) = some (.type "function"))
    (fbb : PySem.W.kitOne K (.ref C_BadLength) (.ref C_BadLength) = some true)
    (fba : PySem.W.kitAny K (.ref C_BadLength) [.ref C_BadOrder, .ref C_BadStep] = some false)
    (a0 : PySem.W.nsIn K mainGlobals "inverse_order" = some (some (.ref f0))) (l0 : K.lookup f0 = some ⟨oc0, od0, .func (PySem.W.fnOf "inverse_order" "inverse_order" (defArgs s_inverse_order) (defBody s_inverse_order) (defScope s_inverse_order) .none kV0 dc0 pm0 an0 cd0 ct0), sl0⟩) (c0 : PySem.W.codeIn K cd0 "inverse_order" = true) (k0 : PySem.W.keepIn K (.ref f0) = true)
    (a1 : PySem.W.nsIn K mainGlobals "put_in_order" = some (some (.ref f1))) (l1 : K.lookup f1 = some ⟨oc1, od1, .func (PySem.W.fnOf "put_in_order" "put_in_order" (defArgs s_put_in_order) (defBody s_put_in_order) (defScope s_put_in_order) .none kV1 dc1 pm1 an1 cd1 ct1), sl1⟩) (c1 : PySem.W.codeIn K cd1 "put_in_order" = true) (k1 : PySem.W.keepIn K (.ref f1) = true)
    (a2 : PySem.W.nsIn K mainGlobals "round_from" = some (some (.ref f2))) (l2 : K.lookup f2 = some ⟨oc2, od2, .func (PySem.W.fnOf "round_from" "round_from" (defArgs s_round_from) (defBody s_round_from) (defScope s_round_from) .none kV2 dc2 pm2 an2 cd2 ct2), sl2⟩) (c2 : PySem.W.codeIn K cd2 "round_from" = true) (k2 : PySem.W.keepIn K (.ref f2) = true)
    (a3 : PySem.W.nsIn K mainGlobals "order_cycles" = some (some (.ref f3))) (l3 : K.lookup f3 = some ⟨oc3, od3, .func (PySem.W.fnOf "order_cycles" "order_cycles" (defArgs s_order_cycles) (defBody s_order_cycles) (defScope s_order_cycles) .none kV3 dc3 pm3 an3 cd3 ct3), sl3⟩) (c3 : PySem.W.codeIn K cd3 "order_cycles" = true) (k3 : PySem.W.keepIn K (.ref f3) = true)
    (a4 : PySem.W.nsIn K mainGlobals "_law_box" = some (some (.ref f4))) (l4 : K.lookup f4 = some ⟨oc4, od4, .func (PySem.W.fnOf "_law_box" "_law_box" (defArgs s__law_box) (defBody s__law_box) (defScope s__law_box) .none kV4 dc4 pm4 an4 cd4 ct4), sl4⟩) (c4 : PySem.W.codeIn K cd4 "_law_box" = true) (k4 : PySem.W.keepIn K (.ref f4) = true)
    (a5 : PySem.W.nsIn K mainGlobals "_law_take" = some (some (.ref f5))) (l5 : K.lookup f5 = some ⟨oc5, od5, .func (PySem.W.fnOf "_law_take" "_law_take" (defArgs s__law_take) (defBody s__law_take) (defScope s__law_take) .none kV5 dc5 pm5 an5 cd5 ct5), sl5⟩) (c5 : PySem.W.codeIn K cd5 "_law_take" = true) (k5 : PySem.W.keepIn K (.ref f5) = true)
    (a6 : PySem.W.nsIn K mainGlobals "_law_folded" = some (some (.ref f6))) (l6 : K.lookup f6 = some ⟨oc6, od6, .func (PySem.W.fnOf "_law_folded" "_law_folded" (defArgs s__law_folded) (defBody s__law_folded) (defScope s__law_folded) .none kV6 dc6 pm6 an6 cd6 ct6), sl6⟩) (c6 : PySem.W.codeIn K cd6 "_law_folded" = true) (k6 : PySem.W.keepIn K (.ref f6) = true)
    (a7 : PySem.W.nsIn K mainGlobals "_law_same" = some (some (.ref f7))) (l7 : K.lookup f7 = some ⟨oc7, od7, .func (PySem.W.fnOf "_law_same" "_law_same" (defArgs s__law_same) (defBody s__law_same) (defScope s__law_same) .none kV7 dc7 pm7 an7 cd7 ct7), sl7⟩) (c7 : PySem.W.codeIn K cd7 "_law_same" = true) (k7 : PySem.W.keepIn K (.ref f7) = true)
    (a8 : PySem.W.nsIn K mainGlobals "_law_shuffled" = some (some (.ref f8))) (l8 : K.lookup f8 = some ⟨oc8, od8, .func (PySem.W.fnOf "_law_shuffled" "_law_shuffled" (defArgs s__law_shuffled) (defBody s__law_shuffled) (defScope s__law_shuffled) .none kV8 dc8 pm8 an8 cd8 ct8), sl8⟩) (c8 : PySem.W.codeIn K cd8 "_law_shuffled" = true) (k8 : PySem.W.keepIn K (.ref f8) = true)
    (a9 : PySem.W.nsIn K mainGlobals "_law_put" = some (some (.ref f9))) (l9 : K.lookup f9 = some ⟨oc9, od9, .func (PySem.W.fnOf "_law_put" "_law_put" (defArgs s__law_put) (defBody s__law_put) (defScope s__law_put) .none kV9 dc9 pm9 an9 cd9 ct9), sl9⟩) (c9 : PySem.W.codeIn K cd9 "_law_put" = true) (k9 : PySem.W.keepIn K (.ref f9) = true)
    (a10 : PySem.W.nsIn K mainGlobals "_law_refused" = some (some (.ref f10))) (l10 : K.lookup f10 = some ⟨oc10, od10, .func (PySem.W.fnOf "_law_refused" "_law_refused" (defArgs s__law_refused) (defBody s__law_refused) (defScope s__law_refused) .none kV10 dc10 pm10 an10 cd10 ct10), sl10⟩) (c10 : PySem.W.codeIn K cd10 "_law_refused" = true) (k10 : PySem.W.keepIn K (.ref f10) = true)
    (a11 : PySem.W.nsIn K mainGlobals "_law_right" = some (some (.ref f11))) (l11 : K.lookup f11 = some ⟨oc11, od11, .func (PySem.W.fnOf "_law_right" "_law_right" (defArgs s__law_right) (defBody s__law_right) (defScope s__law_right) .none kV11 dc11 pm11 an11 cd11 ct11), sl11⟩) (c11 : PySem.W.codeIn K cd11 "_law_right" = true) (k11 : PySem.W.keepIn K (.ref f11) = true)
    (a12 : PySem.W.nsIn K mainGlobals "law" = some (some (.ref f12))) (l12 : K.lookup f12 = some ⟨oc12, od12, .func (PySem.W.fnOf "law" "law" (defArgs s_law) (defBody s_law) (defScope s_law) .none kV12 dc12 pm12 an12 cd12 ct12), sl12⟩) (c12 : PySem.W.codeIn K cd12 "law" = true) (k12 : PySem.W.keepIn K (.ref f12) = true)
    (z0 : PySem.W.nsIn K mainGlobals "ValueError" = some none) (z1 : PySem.W.nsIn K mainGlobals "abs" = some none) (z2 : PySem.W.nsIn K mainGlobals "all" = some none) (z3 : PySem.W.nsIn K mainGlobals "bool" = some none) (z4 : PySem.W.nsIn K mainGlobals "enumerate" = some none) (z5 : PySem.W.nsIn K mainGlobals "int" = some none) (z6 : PySem.W.nsIn K mainGlobals "isinstance" = some none) (z7 : PySem.W.nsIn K mainGlobals "len" = some none) (z8 : PySem.W.nsIn K mainGlobals "list" = some none) (z9 : PySem.W.nsIn K mainGlobals "range" = some none) (z10 : PySem.W.nsIn K mainGlobals "repr" = some none) (z11 : PySem.W.nsIn K mainGlobals "set" = some none) (z12 : PySem.W.nsIn K mainGlobals "str" = some none) (z13 : PySem.W.nsIn K mainGlobals "tuple" = some none) (z14 : PySem.W.nsIn K mainGlobals "zip" = some none) :
    ∃ fd : FuncData, (∀ (s : Shared) (v : Value), BindsTo s fd ⟨[v], []⟩ [("_law_script", v)]) ∧ ∀ base : Heap, K.In base → base.Ns mainGlobals mg → FnG l.prog w K mg base CX0 7 fa fd ["_law_script"] (spLaw K) := by
  have e := hfa.symm.trans (PySem.W.mg_of X G a12)
  cases e
  have T : Blt mg := ⟨PySem.W.mg_none_of X G z0, PySem.W.mg_none_of X G z1, PySem.W.mg_none_of X G z2, PySem.W.mg_none_of X G z3, PySem.W.mg_none_of X G z4, PySem.W.mg_none_of X G z5, PySem.W.mg_none_of X G z6, PySem.W.mg_none_of X G z7, PySem.W.mg_none_of X G z8, PySem.W.mg_none_of X G z9, PySem.W.mg_none_of X G z10, PySem.W.mg_none_of X G z11, PySem.W.mg_none_of X G z12, PySem.W.mg_none_of X G z13, PySem.W.mg_none_of X G z14⟩
  have F0 := fun_mk (st := s_inverse_order) l0 c0 k0
  have b0 := F0.binds (ps := P_inverse_order) fun _ _ _ _ _ _ us hl => match us, hl with | [_], _ => rfl
  have F1 := fun_mk (st := s_put_in_order) l1 c1 k1
  have b1 := F1.binds (ps := P_put_in_order) fun _ _ _ _ _ _ us hl => match us, hl with | [_, _], _ => rfl
  have F2 := fun_mk (st := s_round_from) l2 c2 k2
  have b2 := F2.binds (ps := P_round_from) fun _ _ _ _ _ _ us hl => match us, hl with | [_, _], _ => rfl
  have F3 := fun_mk (st := s_order_cycles) l3 c3 k3
  have b3 := F3.binds (ps := P_order_cycles) fun _ _ _ _ _ _ us hl => match us, hl with | [_], _ => rfl
  have F4 := fun_mk (st := s__law_box) l4 c4 k4
  have b4 := F4.binds (ps := P__law_box) fun _ _ _ _ _ _ us hl => match us, hl with | [_, _], _ => rfl
  have F5 := fun_mk (st := s__law_take) l5 c5 k5
  have b5 := F5.binds (ps := P__law_take) fun _ _ _ _ _ _ us hl => match us, hl with | [_, _], _ => rfl
  have F6 := fun_mk (st := s__law_folded) l6 c6 k6
  have b6 := F6.binds (ps := P__law_folded) fun _ _ _ _ _ _ us hl => match us, hl with | [_, _], _ => rfl
  have F7 := fun_mk (st := s__law_same) l7 c7 k7
  have b7 := F7.binds (ps := P__law_same) fun _ _ _ _ _ _ us hl => match us, hl with | [_, _], _ => rfl
  have F8 := fun_mk (st := s__law_shuffled) l8 c8 k8
  have b8 := F8.binds (ps := P__law_shuffled) fun _ _ _ _ _ _ us hl => match us, hl with | [_, _], _ => rfl
  have F9 := fun_mk (st := s__law_put) l9 c9 k9
  have b9 := F9.binds (ps := P__law_put) fun _ _ _ _ _ _ us hl => match us, hl with | [_, _], _ => rfl
  have F10 := fun_mk (st := s__law_refused) l10 c10 k10
  have b10 := F10.binds (ps := P__law_refused) fun _ _ _ _ _ _ us hl => match us, hl with | [_, _], _ => rfl
  have F11 := fun_mk (st := s__law_right) l11 c11 k11
  have b11 := F11.binds (ps := P__law_right) fun _ _ _ _ _ _ us hl => match us, hl with | [_], _ => rfl
  have F12 := fun_mk (st := s_law) l12 c12 k12
  have F_I := fun_mk (st := s_init) lI cI kI
  have b_I := F_I.binds (ps := N_init) fun _ _ _ _ _ _ us hl => match us, hl with | [_, _], _ => rfl
  have EK_BadLength : ExK K C_BadLength := ⟨⟨⟨nm_BadLength, q_BadLength, N_BadLength, bs_BadLength, _, sn_BadLength, sb_BadLength, ab_BadLength, co_BadLength, dd_BadLength, m0_BadLength, m1_BadLength, m2_BadLength, m3_BadLength, m5_BadLength, xL_BadLength, rfl⟩, sa_BadLength, eC_BadLength, tC_BadLength, kC_BadLength⟩, ⟨ga_BadLength, gg_BadLength, eC_BadLength, hC_BadLength⟩, ⟨ga_BadLength, gg_BadLength, eC_BadLength, hC_BadLength, oc_BadLength, on, ot, mo_BadLength⟩, nw_BadLength⟩
  have R_BadLength : Ref K C_TurnError C_BadLength fI := ⟨EK_BadLength, ii_BadLength, PySem.W.exm_ref eT hT tT su_BadLength, kv_BadLength, kt_BadLength⟩
  have M_TurnError := PySem.W.mg_of X G g_TurnError
  have M_BadLength := PySem.W.mg_of X G g_BadLength
  have M_BadOrder := PySem.W.mg_of X G g_BadOrder
  have M_BadStep := PySem.W.mg_of X G g_BadStep
  refine ⟨_, fun s v => .of_eq rfl, fun base _ _ => ok_law (P := l.prog) (w := w) (base := base) F12 T ⟨⟨_, _, F0, b0, PySem.W.mg_of X G a0⟩, ⟨_, _, F1, b1, PySem.W.mg_of X G a1⟩, ⟨_, _, F2, b2, PySem.W.mg_of X G a2⟩, ⟨_, _, F3, b3, PySem.W.mg_of X G a3⟩, ⟨_, _, F4, b4, PySem.W.mg_of X G a4⟩, ⟨_, _, F5, b5, PySem.W.mg_of X G a5⟩, ⟨_, _, F6, b6, PySem.W.mg_of X G a6⟩, ⟨_, _, F7, b7, PySem.W.mg_of X G a7⟩, ⟨_, _, F8, b8, PySem.W.mg_of X G a8⟩, ⟨_, _, F9, b9, PySem.W.mg_of X G a9⟩, ⟨_, _, F10, b10, PySem.W.mg_of X G a10⟩, ⟨_, _, F11, b11, PySem.W.mg_of X G a11⟩⟩ ⟨F_I, b_I, tI, R_BadLength, M_TurnError, M_BadLength, M_BadOrder, M_BadStep, fbb, fba⟩⟩
end My
open PySem PySem.W PyProof.Rows
set_option maxRecDepth 100000 in
set_option maxHeartbeats 0 in
theorem PySem.Challenge.cw_turnsums_k49_rows_put_in_order_holds : PySem.Challenge.rw_turnsums_k49_rows_put_in_order.Holds := by
  w_on; o_law; k_head; (case hw => w_witness2)
  k_fill
  refine My.walk_ofG (l := PySem.Challenge.rw_turnsums_k49_rows_put_in_order) (n := 63) (k := 7) (x := "_law_script") (sp := fun w => My.spLaw _) rfl (by decide) rfl ⟨rfl, by decide, by decide⟩ (fun w h Y => PySem.W.kIn_of Y) ?F (fun _ _ a ns hl _ hS => ⟨a, ns, rfl, hS, hl, fun _ => rfl⟩)
  case F =>
    intro w mg fa h KX G hmg
    refine' My.all_mk KX G hmg ?g_TurnError ?g_BadLength ?g_BadOrder ?g_BadStep ?on ?ot ?eT ?hT ?tT ?xL_BadLength ?sa_BadLength ?ga_BadLength ?gg_BadLength ?nw_BadLength ?ii_BadLength ?oc_BadLength ?kC_BadLength ?eC_BadLength ?tC_BadLength ?hC_BadLength ?mo_BadLength ?su_BadLength ?kv_BadLength ?kt_BadLength ?lI ?cI ?kI ?tI ?fbb ?fba ?a0 ?l0 ?c0 ?k0 ?a1 ?l1 ?c1 ?k1 ?a2 ?l2 ?c2 ?k2 ?a3 ?l3 ?c3 ?k3 ?a4 ?l4 ?c4 ?k4 ?a5 ?l5 ?c5 ?k5 ?a6 ?l6 ?c6 ?k6 ?a7 ?l7 ?c7 ?k7 ?a8 ?l8 ?c8 ?k8 ?a9 ?l9 ?c9 ?k9 ?a10 ?l10 ?c10 ?k10 ?a11 ?l11 ?c11 ?k11 ?a12 ?l12 ?c12 ?k12 ?z0 ?z1 ?z2 ?z3 ?z4 ?z5 ?z6 ?z7 ?z8 ?z9 ?z10 ?z11 ?z12 ?z13 ?z14
    (case g_TurnError => first | k_is | rfl)
    (case g_BadLength => first | k_is | rfl)
    (case g_BadOrder => first | k_is | rfl)
    (case g_BadStep => first | k_is | rfl)
    (case on => first | k_is | rfl)
    (case ot => first | k_is | rfl)
    (case eT => first | k_is | rfl)
    (case hT => first | k_is | rfl)
    (case tT => first | k_is | rfl)
    (case xL_BadLength => first | k_is | rfl)
    (case sa_BadLength => first | k_is | rfl)
    (case ga_BadLength => first | k_is | rfl)
    (case gg_BadLength => first | k_is | rfl)
    (case nw_BadLength => first | k_is | rfl)
    (case ii_BadLength => first | k_is | rfl)
    (case oc_BadLength => first | k_is | rfl)
    (case kC_BadLength => first | k_is | rfl)
    (case eC_BadLength => first | k_is | rfl)
    (case tC_BadLength => first | k_is | rfl)
    (case hC_BadLength => first | k_is | rfl)
    (case mo_BadLength => first | k_is | rfl)
    (case su_BadLength => first | k_is | rfl)
    (case kv_BadLength => first | k_is | rfl)
    (case kt_BadLength => first | k_is | rfl)
    (case lI => first | k_is | rfl)
    (case cI => first | k_is | rfl)
    (case kI => first | k_is | rfl)
    (case tI => first | k_is | rfl)
    (case fbb => first | k_is | rfl)
    (case fba => first | k_is | rfl)
    (case a0 => k_is)
    (case l0 => k_is)
    (case c0 => k_is)
    (case k0 => k_is)
    (case a1 => k_is)
    (case l1 => k_is)
    (case c1 => k_is)
    (case k1 => k_is)
    (case a2 => k_is)
    (case l2 => k_is)
    (case c2 => k_is)
    (case k2 => k_is)
    (case a3 => k_is)
    (case l3 => k_is)
    (case c3 => k_is)
    (case k3 => k_is)
    (case a4 => k_is)
    (case l4 => k_is)
    (case c4 => k_is)
    (case k4 => k_is)
    (case a5 => k_is)
    (case l5 => k_is)
    (case c5 => k_is)
    (case k5 => k_is)
    (case a6 => k_is)
    (case l6 => k_is)
    (case c6 => k_is)
    (case k6 => k_is)
    (case a7 => k_is)
    (case l7 => k_is)
    (case c7 => k_is)
    (case k7 => k_is)
    (case a8 => k_is)
    (case l8 => k_is)
    (case c8 => k_is)
    (case k8 => k_is)
    (case a9 => k_is)
    (case l9 => k_is)
    (case c9 => k_is)
    (case k9 => k_is)
    (case a10 => k_is)
    (case l10 => k_is)
    (case c10 => k_is)
    (case k10 => k_is)
    (case a11 => k_is)
    (case l11 => k_is)
    (case c11 => k_is)
    (case k11 => k_is)
    (case a12 => k_is)
    (case l12 => k_is)
    (case c12 => k_is)
    (case k12 => k_is)
    (case z0 => k_is)
    (case z1 => k_is)
    (case z2 => k_is)
    (case z3 => k_is)
    (case z4 => k_is)
    (case z5 => k_is)
    (case z6 => k_is)
    (case z7 => k_is)
    (case z8 => k_is)
    (case z9 => k_is)
    (case z10 => k_is)
    (case z11 => k_is)
    (case z12 => k_is)
    (case z13 => k_is)
    (case z14 => k_is)

