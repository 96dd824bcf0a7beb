import PyProof.Rows.All
import Wide.All
import OpenK.AllK
import Wide.FinOn
import HandS.ForMost
import HandS.IsInst
import HandS.Style
import HandS.Wide
import HandS.WideMore
import HandS.Zip
import HandS.Flow
import HandS.SetFor
import HandS.Strs
import HandS.SortInts
import HandS.ExcInit
import HandS.ExcField
import HandS.ExcIs
import HandS.ExcValue
import HandS.WordsExc
import HandS.NoneIn
import HandS.Conv
import KE.KExcIs
import PySem.Challenge.RW_turnsums_k50_turned_orders_by_digits
set_option Elab.async false
set_option linter.all false
set_option maxRecDepth 100000
set_option maxHeartbeats 4000000
namespace My
open PySem L2
def top (i : Nat) : Stmt := PySem.Challenge.pw_turnsums_k50_turned_orders_by_digits.main.body.getD i (.Pass ⟨0, 0, 0, 0⟩)
/-- a def of the text: where it stands, how it is called -/
structure Df (K : PySem.W.Frag) (mg : Str → Option Value) (x : Str) (st : Stmt) (ps : List Str) (f : Addr) (fd : FuncData) : Prop where
  F : Fun K x x st f fd
  b : Binds K fd ps []
  g : mg x = some (.ref f)
/-! heaps: all but the box stays -/
theorem same_upd {H H' : Hp} {p : Addr} {o : HO} (h : Same H H') (n : H' p = none) : Same H (upd H' p o) := fun b x e => by
  rw [upd_ne (ne_of_none (h b x e) n)]
  exact h b x e
theorem same_new {H : Hp} {p : Addr} {o : HO} (n : H p = none) : Same H (upd H p o) := same_upd (Same.refl H) n
theorem same_mut {H H' : Hp} {p : Addr} {o : HO} (h : Same H H') (n : H p = none) : Same H (upd H' p o) := fun b x e => by
  rw [upd_ne (ne_of_none e n)]
  exact h b x e
theorem same_t {K : PySem.W.Frag} {H H' : Hp} {a : Addr} {xs : List V} (e : Same H H') (h : SqT K H a xs) : SqT K H' a xs := by
  rcases h with (h | ⟨o, h⟩) | h
  · exact .inl (.inl (e _ _ h))
  · exact .inl (.inr ⟨o, e _ _ h⟩)
  · exact .inr h
def Keep (b : Addr) (H H' : Hp) : Prop := ∀ a o, a ≠ b → H a = some o → H' a = some o
theorem Keep.refl (b : Addr) (H : Hp) : Keep b H H := fun _ _ _ h => h
theorem Keep.trans {b : Addr} {H H1 H2 : Hp} (a : Keep b H H1) (c : Keep b H1 H2) : Keep b H H2 := fun x o n h => c x o n (a x o n h)
theorem keepS {b : Addr} {H H' : Hp} (h : Same H H') : Keep b H H' := fun x o _ e => h x o e
theorem keep_same {b : Addr} {H0 H H' : Hp} (a : Same H0 H) (n : H0 b = none) (k : Keep b H H') : Same H0 H' := fun x o e => k x o (ne_of_none e n) (a x o e)
theorem keep_upd {b : Addr} {H H' : Hp} {o : HO} (h : Keep b H H') : Keep b H (upd H' b o) := fun a u n e => by
  rw [upd_ne n]
  exact h a u n e
theorem keep_new {b p : Addr} {H H' : Hp} {o : HO} (h : Keep b H H') (n : H' p = none) : Keep b H (upd H' p o) := fun a u na e => by
  rw [upd_ne (ne_of_none (h a u na e) n)]
  exact h a u na e
theorem Keep.seq {K : PySem.W.Frag} {b a : Addr} {H H' : Hp} {xs : List V} (e : Keep b H H') (n : a ≠ b) (h : SqL K H a xs) : SqL K H' a xs := by
  rcases h with (h | ⟨o, h⟩) | h
  · exact .inl (.inl (e _ _ n h))
  · exact .inl (.inr ⟨o, e _ _ n h⟩)
  · exact .inr h
def BoxAt (H : Hp) (b : Addr) (n : Int) : Prop := ∃ x y z : Int, H b = some (.lst [.int x, .int y, .int z]) ∧ 0 ≤ x ∧ 0 ≤ y ∧ y ≤ 4294967296 ∧ 0 ≤ z ∧ z ≤ n
theorem BoxAt.mono {H : Hp} {b : Addr} {n m : Int} (h : BoxAt H b n) (e : n ≤ m) : BoxAt H b m := by
  obtain ⟨x, y, z, a1, a2, a3, a4, a5, a6⟩ := h
  exact ⟨x, y, z, a1, a2, a3, a4, a5, by omega⟩
theorem BoxAt.same {H H' : Hp} {b : Addr} {n : Int} (h : BoxAt H b n) (e : Same H H') : BoxAt H' b n := by
  obtain ⟨x, y, z, a1, a2⟩ := h
  exact ⟨x, y, z, e _ _ a1, a2⟩
theorem BoxAt.some {H : Hp} {b : Addr} {n : Int} (h : BoxAt H b n) : ∃ o, H b = some o := by
  obtain ⟨x, y, z, a1, a2⟩ := h
  exact ⟨_, a1⟩
theorem BoxAt.ne {H : Hp} {b p : Addr} {n : Int} (h : BoxAt H b n) (e : H p = none) : p ≠ b := by
  obtain ⟨o, h⟩ := h.some
  exact (ne_of_none h e).symm
theorem szl {n : Nat} (h : n ≤ 60000) : n ≤ sizeLine := Nat.le_trans h (by decide)
theorem szm {n : Nat} (h : n ≤ 60000) : n < sizeLine := Nat.lt_of_le_of_lt h (by decide)
theorem pw6 : (10 : Int) ^ Int.toNat 6 = 1000000 := by decide
theorem pw9 : (10 : Int) ^ Int.toNat 9 = 1000000000 := by decide
theorem newO {H H' : Hp} {p : Addr} {o : HO} (e : upd H p o = H') (hp : H p = none) : Same H H' ∧ H' p = some o := by
  subst e
  exact ⟨same_new hp, upd_same⟩
theorem mutO {H H' : Hp} {p : Addr} {o : HO} (e : upd H p o = H') : Keep p H H' ∧ H' p = some o := by
  subst e
  exact ⟨keep_upd (Keep.refl _ _), upd_same⟩
/-- a word of ours that the walk must not open -/
inductive Hold (p : Prop) : Prop
  | mk : p → Hold p
theorem Hold.un {p : Prop} (h : Hold p) : p := by
  cases h with
  | mk h => exact h
theorem holdN {W : Nat → L2.St → Hp → Prop} {m : Nat} : ∀ (σ' : L2.St) (H' : Hp), Hold (∃ m', m' < m ∧ W m' σ' H') → ∃ m', m' < m ∧ W m' σ' H' := fun _ _ h => h.un
theorem ite_dec {c A B : Prop} [Decidable c] (hc : c) (h : A) : if decide c = true then A else B := by
  rw [decide_eq_true hc]
  exact iteT h
def rLenQ (K : PySem.W.Frag) : List V → Hp → VK → Prop := fun xs H Q => ∃ p ys, xs = [.ref p] ∧ (SqL K H p ys ∨ SqT K H p ys) ∧ Q (.int ys.length) H
theorem iteTe {b : Bool} {A B : Prop} (e : b = true) (h : A) : if b = true then A else B := by
  rw [if_pos e]
  exact h
theorem iteFe {b : Bool} {A B : Prop} (e : b = false) (h : B) : if b = true then A else B := by
  rw [e]
  exact iteF h
theorem cmul_b {i : Int} {b : Bool} : CMul i (if b then 1 else 0) := by
  refine .inr ?_
  cases b <;> exact ⟨by decide, by decide⟩
theorem at_ints {ns : List Int} {k : Int} (h0 : 0 ≤ k) (h : k < (ns.length : Int)) : ∃ c, c ∈ ns ∧ atI (ns.map V.int) k = some (.int c) := by
  have hk : k.toNat < ns.length := by omega
  refine ⟨ns[k.toNat], List.getElem_mem hk, at_of (j := k.toNat) (by omega) ?_⟩
  rw [List.getElem?_map, List.getElem?_eq_getElem hk]
  rfl
theorem at_some {xs : List V} {k : Int} (h0 : 0 ≤ k) (h : k < (xs.length : Int)) : ∃ v, v ∈ xs ∧ atI xs k = some v := by
  have hk : k.toNat < xs.length := by omega
  exact ⟨xs[k.toNat], List.getElem_mem hk, at_of (j := k.toNat) (by omega) (List.getElem?_eq_getElem hk)⟩
theorem int_mem {ns : List Int} {v : V} (h : v ∈ ns.map V.int) : ∃ c, c ∈ ns ∧ v = .int c := by
  obtain ⟨c, hc, e⟩ := List.mem_map.mp h
  exact ⟨c, hc, e.symm⟩
structure Blt (mg : Str → Option Value) : Prop where
  b_abs : mg "abs" = none
  b_all : mg "all" = none
  b_bool : mg "bool" = none
  b_enumerate : mg "enumerate" = none
  b_int : mg "int" = none
  b_isinstance : mg "isinstance" = none
  b_len : mg "len" = none
  b_list : mg "list" = none
  b_min : mg "min" = none
  b_range : mg "range" = none
  b_sorted : mg "sorted" = none
  b_str : mg "str" = none
  b_tuple : mg "tuple" = none
  b_zip : mg "zip" = none
local macro_rules | `(tactic| walk_at "ev1") => `(tactic| first
  | with_reducible assumption
  | ((with_reducible show _ = _); exact rfl)
  | ((first | with_reducible show (_ : Int) = _ | with_reducible show (_ : Int) < _ | with_reducible show (_ : Int) ≤ _ | with_reducible show (_ : Nat) < _ | with_reducible show (_ : Nat) ≤ _); first | omega | decide | (simp only [pw6, pw9]; omega) | (simp only [List.length_cons, List.length_nil, List.length_append, List.length_map, List.length_replicate]; omega))
  | assumption
  | exact upd_same
  | exact SqL.of upd_same
  | exact Or.inl (SqL.of upd_same)
  | exact Or.inl (by assumption)
  | exact Or.inr (by assumption)
  | omega
  | exact (show CDiv _ _ from ⟨by omega, by omega⟩)
  | exact (show CPow _ _ from ⟨by omega, by omega, by omega⟩)
  | exact (show CMul _ _ from .inl ⟨by omega, by omega⟩)
  | exact (show CMul _ _ from .inr ⟨by omega, by omega⟩)
  | exact (show CMul _ _ from cmul_b)
  | exact (show CDivW _ _ from wide_div (b := 31) (by omega) (by omega) (by decide) (by decide))
  | exact (Or.inl ⟨rfl, _, SqL.of (by assumption)⟩)
  | exact ClsV.ty _
  | exact .cons (.ty _) (.cons (.ty _) .nil)
  | (refine szl ?_; simp only [List.length_cons, List.length_nil, List.length_append, List.length_map, List.length_replicate]; omega)
  | (refine szm ?_; simp only [List.length_cons, List.length_nil, List.length_append, List.length_map, List.length_replicate]; omega))
local macro_rules | `(tactic| walk_at "s") => `(tactic| (first
  | (refine And.intro ?l ?_; (case l => walk_at "ev1"))
  | with_reducible refine iteT ?_
  | with_reducible refine iteF ?_
  | with_reducible refine ite_dec rfl ?_
  | with_reducible refine iteNS rfl ?_
  | with_reducible refine iteNS (by assumption) ?_
  | (apply Or.inl; apply Exists.intro; apply And.intro rfl)
  | (apply Or.inr; apply Exists.intro; apply And.intro rfl)
  | ((fail_if_success (refine @Exists.intro (Nat → Nat → L2.St → Hp → Prop) _ ?_ ?_)); (fail_if_success (refine @Exists.intro (Nat → L2.St → Hp → Prop) _ ?_ ?_)); (fail_if_success (refine @Exists.intro (L2.St → Hp → Prop) _ ?_ ?_)); (fail_if_success (refine @Exists.intro (Hp → Prop) _ ?_ ?_)); (fail_if_success (refine @Exists.intro (Nat → Nat → Hp → Prop) _ ?_ ?_)); apply Exists.intro)))
local macro_rules | `(tactic| walk_at "ev") => `(tactic| repeat (walk_at "s"))
/-! ### orders by digits: the law's own and the program's -/
def turS (t : List Nat) (p : Nat) : List Nat := t.flatMap fun n => (List.range p).map fun d => n + t.length * d
def turN (L : List Nat) : List Nat := L.foldl turS [0]
def turA : List Nat → List Nat → Nat → List Nat
  | [], t, _ => t
  | p :: r, t, m => turA r (t.flatMap fun n => (List.range p).map fun d => n + m * d) (m * p)
theorem len_step {m p : Nat} : ∀ t : List Nat, (t.flatMap fun n => (List.range p).map fun d => n + m * d).length = t.length * p
  | [] => by simp
  | a :: r => by
    rw [List.flatMap_cons, List.length_append, len_step r, List.length_map, List.length_range, List.length_cons, Nat.add_mul, Nat.one_mul, Nat.add_comm]
theorem turA_eq : ∀ (L t : List Nat), L.foldl turS t = turA L t t.length
  | [], t => rfl
  | p :: r, t => by
    have h := turA_eq r (turS t p)
    have e : (turS t p).length = t.length * p := len_step t
    rw [e] at h
    exact h
def digS (s : List Nat × Nat) (p : Nat) : List Nat × Nat := (s.1 ++ [s.2 % p], s.2 / p)
def valS (s : Nat × Nat) (q : Nat × Nat) : Nat × Nat := (s.1 + q.2 * s.2, s.2 * q.1)
def dueAt (L : List Nat) (pl : Nat) : Nat := ((L.zip (L.reverse.foldl digS ([], pl)).1.reverse).foldl valS (0, 1)).1
def cntN (L : List Nat) : Nat := L.foldl (· * ·) 1
def dueN (L : List Nat) : List Nat := (List.range (cntN L)).map (dueAt L)
def invS (acc : List Nat) (q : Nat × Nat) : List Nat := acc.set q.1 q.2
def invN (t : List Nat) : List Nat := t.zipIdx.foldl invS (List.replicate t.length 0)
def lonN (f : Nat) (b : List Nat) : List Nat := (List.range f).flatMap fun d => b.map fun o => d + f * o
def cmpN (s t : List Nat) : List Nat := s.map fun i => t.getD i t.length
/-- all that the law wants of a list of parts -/
def chkO (L : List Nat) : Bool := (turA L [0] 1 == dueN L) && ((cmpN (turA L.reverse [0] 1) (turA L [0] 1) == List.range (cntN L)) && ((invN (dueN L) == turA L.reverse [0] 1) && ((match L with
  | [] => turA L [0] 1 == List.range (cntN L)
  | [_] => turA L [0] 1 == List.range (cntN L)
  | _ => true) && (match L with
  | [] => true
  | x :: r => turA L [0] 1 == lonN x (turA r [0] 1)))))
def allP : Nat → Nat → List (List Nat)
  | 0, _ => [[]]
  | n + 1, b => [] :: (List.range' 2 (b - 1)).flatMap fun p => (allP n (b / p)).map fun l => p :: l
theorem chk22 : (allP 3 15).all (fun l => chkO (2 :: 2 :: l)) = true := by decide +kernel
theorem chk2q : (List.range' 3 28).all (fun q => (allP 3 (30 / q)).all (fun l => chkO (2 :: q :: l))) = true := by decide +kernel
theorem chk2 : chkO [2] = true := by decide +kernel
theorem chk3 : (allP 4 20).all (fun l => chkO (3 :: l)) = true := by decide +kernel
theorem chk4 : (List.range' 4 3).all (fun p => (allP 4 (60 / p)).all (fun l => chkO (p :: l))) = true := by decide +kernel
theorem chk7 : (List.range' 7 24).all (fun p => (allP 4 (60 / p)).all (fun l => chkO (p :: l))) = true := by decide +kernel
theorem chk31 : (List.range' 31 30).all (fun p => (allP 4 (60 / p)).all (fun l => chkO (p :: l))) = true := by decide +kernel
theorem chk0 : chkO [] = true := by decide +kernel
/-- parts: each 2 at least, their product 60 at most -/
def Gd (L : List Nat) : Prop := (∀ p ∈ L, 2 ≤ p) ∧ cntN L ≤ 60 ∧ L.length ≤ 5
theorem cnt_from : ∀ (L : List Nat) (a : Nat), L.foldl (· * ·) a = a * L.foldl (· * ·) 1
  | [], a => by simp
  | p :: r, a => by
    rw [List.foldl_cons, List.foldl_cons, cnt_from r (a * p), cnt_from r (1 * p), Nat.one_mul, Nat.mul_assoc]
theorem cnt_cons (p : Nat) (r : List Nat) : cntN (p :: r) = p * cntN r := by
  show List.foldl _ (1 * p) r = _
  rw [cnt_from, Nat.one_mul]
  rfl
theorem cnt_append (l r : List Nat) : cntN (l ++ r) = cntN l * cntN r := by
  unfold cntN
  rw [List.foldl_append, cnt_from r]
theorem cnt_rev : ∀ L : List Nat, cntN L.reverse = cntN L
  | [] => rfl
  | p :: r => by
    rw [List.reverse_cons, cnt_append, cnt_rev r, cnt_cons p r, cnt_cons p []]
    show cntN r * (p * 1) = p * cntN r
    rw [Nat.mul_one, Nat.mul_comm]
theorem cnt_pos : ∀ {L : List Nat}, (∀ p ∈ L, 2 ≤ p) → 1 ≤ cntN L
  | [], _ => Nat.le_refl _
  | p :: r, h => by
    rw [cnt_cons]
    have h1 := h p List.mem_cons_self
    have h2 := cnt_pos fun q hq => h q (List.mem_cons_of_mem _ hq)
    have : 1 * 1 ≤ p * cntN r := Nat.mul_le_mul (by omega) h2
    omega
theorem Gd.rev {L : List Nat} (h : Gd L) : Gd L.reverse := ⟨fun p hp => h.1 p (List.mem_reverse.mp hp), by rw [cnt_rev]; exact h.2.1, by rw [List.length_reverse]; exact h.2.2⟩
theorem mem_allP : ∀ {n b : Nat} {L : List Nat}, L.length ≤ n → (∀ p ∈ L, 2 ≤ p) → cntN L ≤ b → L ∈ allP n b
  | 0, b, L, h, _, _ => by
    have : L = [] := List.length_eq_zero_iff.mp (by omega)
    rw [this]
    exact List.mem_singleton.mpr rfl
  | n + 1, b, [], _, _, _ => List.mem_cons_self
  | n + 1, b, p :: r, h, h2, hp => by
    rw [cnt_cons] at hp
    have p2 := h2 p List.mem_cons_self
    have r1 := cnt_pos fun q hq => h2 q (List.mem_cons_of_mem _ hq)
    have hpb : p * 1 ≤ p * cntN r := Nat.mul_le_mul_left _ r1
    refine List.mem_cons_of_mem _ (List.mem_flatMap.mpr ⟨p, List.mem_range'_1.mpr ⟨p2, by omega⟩, List.mem_map.mpr ⟨r, mem_allP (by simpa using h) (fun q hq => h2 q (List.mem_cons_of_mem _ hq)) ?_, rfl⟩⟩)
    rw [Nat.le_div_iff_mul_le (by omega), Nat.mul_comm]
    exact hp
theorem Gd.tail {p : Nat} {r : List Nat} (h : Gd (p :: r)) : 2 ≤ p ∧ p ≤ 60 ∧ r ∈ allP 4 (60 / p) ∧ Gd r := by
  obtain ⟨h1, h2, h3⟩ := h
  have p2 := h1 p List.mem_cons_self
  have rr : ∀ q ∈ r, 2 ≤ q := fun q hq => h1 q (List.mem_cons_of_mem _ hq)
  have r1 := cnt_pos rr
  rw [cnt_cons] at h2
  have hpb : p * 1 ≤ p * cntN r := Nat.mul_le_mul_left _ r1
  have hrb : 1 * cntN r ≤ p * cntN r := Nat.mul_le_mul_right _ (by omega)
  have h3' : r.length ≤ 4 := by simpa using h3
  exact ⟨p2, by omega, mem_allP h3' rr (by rw [Nat.le_div_iff_mul_le (by omega), Nat.mul_comm]; exact h2), rr, by omega, by omega⟩
theorem chk_of {L : List Nat} (h : Gd L) : chkO L = true := by
  cases L with
  | nil => exact chk0
  | cons p r =>
    obtain ⟨p2, p6, hm, hr⟩ := h.tail
    by_cases a2 : p = 2
    · subst a2
      cases r with
      | nil => exact chk2
      | cons q l =>
        obtain ⟨q2, q6, hl, _⟩ := hr.tail
        have hc := h.2.1
        rw [cnt_cons, cnt_cons] at hc
        have l1 := cnt_pos fun z hz => hr.1 z (List.mem_cons_of_mem _ hz)
        have hq : q * 1 ≤ q * cntN l := Nat.mul_le_mul_left _ l1
        have h3 : l.length ≤ 3 := by have := h.2.2; simp at this; omega
        have hlm : ∀ b, q * b = q * b → l ∈ allP 3 (30 / q) := fun _ _ => mem_allP h3 (fun z hz => hr.1 z (List.mem_cons_of_mem _ hz)) (by rw [Nat.le_div_iff_mul_le (by omega), Nat.mul_comm]; omega)
        by_cases b2 : q = 2
        · subst b2
          exact (List.all_eq_true.mp chk22) l (hlm 0 rfl)
        · exact (List.all_eq_true.mp ((List.all_eq_true.mp chk2q) q (List.mem_range'_1.mpr ⟨by omega, by omega⟩))) l (hlm 0 rfl)
    · by_cases a3 : p = 3
      · subst a3
        exact (List.all_eq_true.mp chk3) r hm
      · by_cases a6 : p ≤ 6
        · exact (List.all_eq_true.mp ((List.all_eq_true.mp chk4) p (List.mem_range'_1.mpr ⟨by omega, by omega⟩))) r hm
        · by_cases a30 : p ≤ 30
          · exact (List.all_eq_true.mp ((List.all_eq_true.mp chk7) p (List.mem_range'_1.mpr ⟨by omega, by omega⟩))) r hm
          · exact (List.all_eq_true.mp ((List.all_eq_true.mp chk31) p (List.mem_range'_1.mpr ⟨by omega, by omega⟩))) r hm
theorem turN_eq (L : List Nat) : turA L [0] 1 = turN L := (turA_eq L [0]).symm
/-- what the look says -/
theorem ord_facts {L : List Nat} (h : Gd L) : turN L = dueN L ∧ cmpN (turN L.reverse) (turN L) = List.range (cntN L) ∧ invN (turN L) = turN L.reverse ∧ (L.length < 2 → turN L = List.range (cntN L)) ∧ (∀ x r, L = x :: r → turN L = lonN x (turN r)) := by
  have c := chk_of h
  unfold chkO at c
  simp only [Bool.and_eq_true, beq_iff_eq, turN_eq] at c
  obtain ⟨c1, c2, c3, c4, c5⟩ := c
  refine ⟨c1, c2, by rw [c1]; exact c3, fun hl => ?_, fun x r e => ?_⟩
  · match L, hl with
    | [], _ => simpa using c4
    | [_], _ => simpa using c4
  · subst e
    simpa [turN_eq] using c5
theorem tur_len {L : List Nat} (h : Gd L) : (turN L).length = cntN L := by
  have := congrArg List.length (ord_facts h).1
  rw [this]
  unfold dueN
  rw [List.length_map, List.length_range]
/-! ### turned_order -/
abbrev vN (n : Nat) : V := .int (n : Int)
theorem lc2_list {K : PySem.W.Frag} {a : Addr} {xs : List V} {g : TG} {tt : TT} {vs : List Nat} {σ : L2.St} {H1 : Hp} {D : Addr} {Qd : Hp → Prop} (B : L2.St → Hp → (Hp → Prop) → Bool → Prop) (Pv : Nat → Hp → Prop) (h0 : Pv 0 (upd H1 D (.lst []))) (hl : ∀ i H, i ≤ xs.length → Pv i H → SqL K H a xs)
    (hs : ∀ i x H, xs[i]? = some x → Pv i H → g x (wipe σ vs) H fun σ2 H2 => wipe σ2 vs = wipe σ vs ∧ tt σ2 H2 fun b H3 => B σ2 H3 (Pv (i + 1)) b) (hd : ∀ H, Pv xs.length H → Qd H) :
    ∃ W : Nat → Nat → Hp → Prop, (∃ m, W 0 m (upd H1 D (.lst []))) ∧ ∀ i m H, W i m H → ((Itl K a).stop i H ∧ Qd H) ∨ ((Itl K a).go i H ∧ ∃ Nx : Hp → Prop, (∀ H', Nx H' → ∃ m', m' < m ∧ W (i + 1) m' H') ∧ ∀ x H', (Itl K a).yld i H x H' → g x (wipe σ vs) H' fun σ2 H2 => wipe σ2 vs = wipe σ vs ∧ tt σ2 H2 fun b H3 => B σ2 H3 Nx b) := by
  refine ⟨fun i m H => m = xs.length - i ∧ i ≤ xs.length ∧ Pv i H, ⟨xs.length, by simp, Nat.zero_le _, h0⟩, ?_⟩
  rintro i m H ⟨rfl, hi, p⟩
  have q := hl i H hi p
  by_cases hlt : i < xs.length
  · refine .inr ⟨⟨xs, xs[i], q, by simp [hlt]⟩, Pv (i + 1), fun H' p' => ⟨xs.length - (i + 1), by omega, rfl, hlt, p'⟩, fun x H' y => ?_⟩
    obtain ⟨e, y⟩ := y
    subst e
    exact hs i x H' (y xs q) p
  · have e : i = xs.length := by omega
    subst e
    exact .inl ⟨⟨xs, q, Nat.le_refl _⟩, hd H p⟩
theorem lc2_range {lo : Int} {n : Nat} {g : TG} {tt : TT} {te : TE} {vs : List Nat} {σ : L2.St} {H1 : Hp} {D : Addr} {Qd : Hp → Prop} (Pv : Nat → Hp → Prop) (h0 : Pv 0 H1)
    (hs : ∀ i H, i < n → Pv i H → g (.int (lo + i)) (wipe σ vs) H fun σ2 H2 => wipe σ2 vs = wipe σ vs ∧ tt σ2 H2 fun b H3 => if b = true then te σ2 H3 fun y H4 => ∃ acc, H4 D = some (.lst acc) ∧ acc.length < sizeLine ∧ Pv (i + 1) (upd H4 D (.lst (acc ++ [y]))) else Pv (i + 1) H3) (hd : ∀ H, Pv n H → Qd H) :
    ∃ W : Nat → Nat → Hp → Prop, (∃ m, W 0 m H1) ∧ ∀ i m H, W i m H → ((Itr lo n).stop i H ∧ Qd H) ∨ ((Itr lo n).go i H ∧ ∃ Nx : Hp → Prop, (∀ H', Nx H' → ∃ m', m' < m ∧ W (i + 1) m' H') ∧ ∀ x H', (Itr lo n).yld i H x H' → g x (wipe σ vs) H' fun σ2 H2 => wipe σ2 vs = wipe σ vs ∧ tt σ2 H2 fun b H3 =>
      if b = true then te σ2 H3 fun y H4 => ∃ acc, H4 D = some (.lst acc) ∧ acc.length < sizeLine ∧ Nx (upd H4 D (.lst (acc ++ [y]))) else Nx H3) := by
  refine ⟨fun i m H => m = n - i ∧ i ≤ n ∧ Pv i H, ⟨n, by simp, Nat.zero_le _, h0⟩, ?_⟩
  rintro i m H ⟨rfl, hi, p⟩
  by_cases hlt : i < n
  · refine .inr ⟨hlt, Pv (i + 1), fun H' p' => ⟨n - (i + 1), by omega, rfl, hlt, p'⟩, fun x H' y => ?_⟩
    obtain ⟨e, y⟩ := y
    subst e y
    exact hs i _ hlt p
  · have e : i = n := by omega
    subst e
    exact .inl ⟨Nat.le_refl _, hd H p⟩
theorem turS_take {t : List Nat} {p i : Nat} {x : Nat} (h : t[i]? = some x) : (t.take (i + 1)).flatMap (fun n => (List.range p).map fun d => n + t.length * d) = (t.take i).flatMap (fun n => (List.range p).map fun d => n + t.length * d) ++ (List.range p).map fun d => x + t.length * d := by
  rw [List.take_add_one, h, List.flatMap_append]
  simp
abbrev s_turned_order : Stmt := top 5
abbrev N_turned_order : List Str := ["parts", "told", "part", "number", "digit"]
abbrev P_turned_order : List Str := ["parts"]
theorem sc_turned_order : FnScope N_turned_order P_turned_order (defScope s_turned_order) := ⟨rfl, rfl, rfl, by decide +kernel, rfl, by decide +kernel, by decide +kernel⟩
def spTur (K : PySem.W.Frag) : Sp := fun vs H Q _ => ∃ (a : Addr) (L : List Nat), vs = [.ref a] ∧ SqL K H a (L.map vN) ∧ Gd L ∧ ∀ p H', H p = none → Same H H' → H' p = some (.lst ((turN L).map vN)) → Q (.ref p) H'
def spTurT (K : PySem.W.Frag) : Sp := fun vs H Q _ => ∃ (a : Addr) (L : List Nat), vs = [.ref a] ∧ SqT K H a (L.map vN) ∧ Gd L ∧ ∀ p H', H p = none → Same H H' → H' p = some (.lst ((turN L).map vN)) → Q (.ref p) H'
theorem Gd.take {L : List Nat} (h : Gd L) (i : Nat) : Gd (L.take i) := by
  obtain ⟨h1, h2, h3⟩ := h
  refine ⟨fun p hp => h1 p (List.mem_of_mem_take hp), ?_, by rw [List.length_take]; omega⟩
  have e := cnt_append (L.take i) (L.drop i)
  rw [List.take_append_drop] at e
  have d1 := cnt_pos (L := L.drop i) fun p hp => h1 p (List.mem_of_mem_drop hp)
  have : cntN (L.take i) * 1 ≤ cntN (L.take i) * cntN (L.drop i) := Nat.mul_le_mul_left _ d1
  omega
theorem cnt_take {L : List Nat} {i p : Nat} (h : L[i]? = some p) : cntN (L.take (i + 1)) = cntN (L.take i) * p := by
  rw [List.take_add_one, h, cnt_append]
  congr 1
  exact (cnt_cons p []).trans (Nat.mul_one p)
theorem turN_take {L : List Nat} {i p : Nat} (h : L[i]? = some p) : turN (L.take (i + 1)) = turS (turN (L.take i)) p := by
  unfold turN
  rw [List.take_add_one, h, List.foldl_append]
  rfl
section
variable {P : Program} {w : World} {K : PySem.W.Frag} {mg : Str → Option Value} {base : Heap}
theorem ok_tur {f : Addr} {fd : FuncData} {k : Nat} (F : Fun K "turned_order" "turned_order" s_turned_order f fd) (T : Blt mg) : FnOk P w K mg base CX0 (k + 1) f fd P_turned_order (spTur K) := by
  have nd := sc_turned_order.nd
  refine F.ok sc_turned_order (fun vs H Q E h => ?_) (fun cdv A outer s H vs Q E hr h => ?_)
  · obtain ⟨a, L, rfl, _⟩ := h
    rfl
  · obtain ⟨a, L, rfl, hL, hg, q⟩ := h
    refine ⟨_, (pss_cons (ps_set (i := 1) nd rfl (Or.inr rfl) (pe_lst (pa_cons (pe_int) pa_nil)))
      (pss_cons (ps_for PassesOwn.never rfl (pi_list (pv 0)) (pg_name (i := 2) nd rfl (Or.inr rfl))
      (pss_one (ps_set (i := 1) nd rfl (Or.inr rfl) (pe_lc2 (own := [("number", 3), ("digit", 4)]) (vs1 := [4]) (g := gName 3) (g1 := gName 4) (by rfl) nd (pi_list (pv 1)) (blkOk_by (own := [("number", 3), ("digit", 4)]) (N := N_turned_order) (sc := defScope s_turned_order) (by decide +kernel)) (by decide) (fun _ _ _ _ _ => (pg_name (i := 3) nd rfl (Or.inl rfl))) (fun _ _ _ _ _ => pts_nil) (fun _ _ _ _ _ => (pi_range1 (by rfl) T.b_range (pa_cons (pv 2) pa_nil))) (fun _ _ _ _ _ => (pg_name (i := 4) nd rfl (Or.inl rfl))) (fun _ _ _ _ _ => pts_nil) (fun _ _ _ _ _ => (pe_op op_add (pv 3) (pe_op op_mul (pe_callB (r := rLenQ K) call_len_seq (by rfl) T.b_len (by decide +kernel) (pa_cons (pv 1) pa_nil)) (pv 4))))))))
      (pss_one (ps_ret (pv 1))))), ?_⟩
    walk_at "ev"
    intro t0 ht0
    generalize hG : upd _ t0 _ = H1
    obtain ⟨sm1, hq1⟩ := newO hG ht0
    clear hG
    have hL1 := sm1.seq hL
    have hL1' : ∃ xs, SqL K H1 a xs := ⟨_, hL1⟩
    refine ⟨_, rfl, a, rfl, hL1', for_list (K := K) (a := a) (xs := L.map vN) (fun i σ H' => Hold (∃ (t : Addr) (s2 : Option V), σ = [some (.ref a), some (.ref t), s2, none, none] ∧ Same H H' ∧ H t = none ∧ H' t = some (.lst ((turN (L.take i)).map vN)))) (.mk ⟨t0, none, rfl, sm1, ht0, hq1⟩) ?_ ?_ ?_⟩
    · intro i σ H2 hi hP
      obtain ⟨t, s2, rfl, sm2, ht, hq2⟩ := hP.un
      exact sm2.seq hL
    · intro i v σ H2 hv hP
      obtain ⟨t, s2, rfl, sm2, ht, hq2⟩ := hP.un
      rw [List.getElem?_map] at hv
      obtain ⟨p, hp, ev⟩ := Option.map_eq_some_iff.mp hv
      subst ev
      have hpm := List.mem_of_getElem? hp
      have p2 := hg.1 p hpm
      have hlt := tur_len (hg.take i)
      have hct := cnt_take hp
      have hc1 := (hg.take (i + 1)).2.1
      have hc0 := cnt_pos (hg.take i).1
      have hpb : 1 * p ≤ cntN (L.take i) * p := Nat.mul_le_mul_right _ hc0
      have hst := turN_take hp
      have hlo : (0 : Int) ≤ (p : Int) := by omega
      rw [hct] at hc1
      generalize turN (L.take i) = t1 at *
      have hLt : SqL K H2 t (t1.map vN) := SqL.of hq2
      have hLt' : ∃ xs, SqL K H2 t xs := ⟨_, hLt⟩
      walk_at "ev"
      intro D hD
      refine lc2_list (K := K) (a := t) (xs := t1.map vN) _ (fun i' H' => Hold (Same H2 H' ∧ H' D = some (.lst ((((t1.take i').flatMap fun n => (List.range p).map fun d => n + t1.length * d)).map vN)))) (.mk ⟨same_new hD, upd_same⟩) ?_ ?_ ?_
      · intro i' H3 hi' hP3
        obtain ⟨sm3, hD3⟩ := hP3.un
        exact sm3.seq hLt
      · intro i' v H3 hv hP3
        obtain ⟨sm3, hD3⟩ := hP3.un
        rw [List.getElem?_map] at hv
        obtain ⟨x, hx, ev⟩ := Option.map_eq_some_iff.mp hv
        subst ev
        have hil : i' < t1.length := (List.getElem?_eq_some_iff.mp hx).1
        have htk := turS_take (p := p) hx
        have hln := len_step (m := t1.length) (p := p) (t1.take i')
        rw [List.length_take, Nat.min_eq_left (by omega)] at hln
        have hib : i' * p ≤ 60 := Nat.le_trans (Nat.mul_le_mul_right _ (by omega)) hc1
        have hp6 : p ≤ 60 := by omega
        generalize (t1.take i').flatMap (fun n => (List.range p).map fun d => n + t1.length * d) = acc at *
        walk_at "ev"
        refine lc2_range (lo := 0) (n := p) (fun j H' => Hold (Same H2 H' ∧ H' D = some (.lst ((acc ++ (List.range j).map fun d => x + t1.length * d).map vN)))) (.mk ⟨sm3, by rw [hD3]; simp⟩) ?_ ?_
        · intro j H4 hj hP4
          obtain ⟨sm4, hD4⟩ := hP4.un
          have hLt4 := sm4.seq hLt
          have cm : CMul ((t1.map vN).length : Int) (0 + (j : Int)) := .inr ⟨by omega, by omega⟩
          have hsz : ((acc ++ (List.range j).map fun d => x + t1.length * d).map vN).length < sizeLine := by
            rw [List.length_map, List.length_append, List.length_map, List.length_range, hln]
            exact szm (by omega)
          walk_at "ev"
          refine .mk ⟨same_mut sm4 hD, ?_⟩
          have e2 : (acc ++ (List.range (j + 1)).map fun d => x + t1.length * d).map vN = (acc ++ (List.range j).map fun d => x + t1.length * d).map vN ++ [vN (x + t1.length * j)] := by
            simp [List.range_succ]
          have e : V.int ((x : Int) + ((t1.map vN).length : Int) * (0 + (j : Int))) = vN (x + t1.length * j) := by
            show V.int _ = V.int _
            rw [List.length_map, Int.zero_add, Int.natCast_add, Int.natCast_mul]
          rw [upd_same, e2, ← e]
        · intro H4 hP4
          obtain ⟨sm4, hD4⟩ := hP4.un
          exact .mk ⟨sm4, by rw [hD4, htk]⟩
      · intro H3 hP3
        obtain ⟨sm3, hD3⟩ := hP3.un
        rw [List.length_map, List.take_length] at hD3
        refine .mk ⟨D, _, rfl, sm2.trans sm3, sm2.free hD, ?_⟩
        rw [hD3, hst]
        rfl
    · intro σ H2 hP
      obtain ⟨t, s2, rfl, sm2, ht, hq2⟩ := hP.un
      rw [List.length_map, List.take_length] at hq2
      walk_at "ev"
      exact q _ _ ht sm2 hq2
theorem ok_turT {f : Addr} {fd : FuncData} {k : Nat} (F : Fun K "turned_order" "turned_order" s_turned_order f fd) (T : Blt mg) : FnOk P w K mg base CX0 (k + 1) f fd P_turned_order (spTurT K) := by
  have nd := sc_turned_order.nd
  refine F.ok sc_turned_order (fun vs H Q E h => ?_) (fun cdv A outer s H vs Q E hr h => ?_)
  · obtain ⟨a, L, rfl, _⟩ := h
    rfl
  · obtain ⟨a, L, rfl, hL, hg, q⟩ := h
    refine ⟨_, (pss_cons (ps_set (i := 1) nd rfl (Or.inr rfl) (pe_lst (pa_cons (pe_int) pa_nil)))
      (pss_cons (ps_for PassesOwn.never rfl (pi_tup (pv 0)) (pg_name (i := 2) nd rfl (Or.inr rfl))
      (pss_one (ps_set (i := 1) nd rfl (Or.inr rfl) (pe_lc2 (own := [("number", 3), ("digit", 4)]) (vs1 := [4]) (g := gName 3) (g1 := gName 4) (by rfl) nd (pi_list (pv 1)) (blkOk_by (own := [("number", 3), ("digit", 4)]) (N := N_turned_order) (sc := defScope s_turned_order) (by decide +kernel)) (by decide) (fun _ _ _ _ _ => (pg_name (i := 3) nd rfl (Or.inl rfl))) (fun _ _ _ _ _ => pts_nil) (fun _ _ _ _ _ => (pi_range1 (by rfl) T.b_range (pa_cons (pv 2) pa_nil))) (fun _ _ _ _ _ => (pg_name (i := 4) nd rfl (Or.inl rfl))) (fun _ _ _ _ _ => pts_nil) (fun _ _ _ _ _ => (pe_op op_add (pv 3) (pe_op op_mul (pe_callB (r := rLenQ K) call_len_seq (by rfl) T.b_len (by decide +kernel) (pa_cons (pv 1) pa_nil)) (pv 4))))))))
      (pss_one (ps_ret (pv 1))))), ?_⟩
    walk_at "ev"
    intro t0 ht0
    generalize hG : upd _ t0 _ = H1
    obtain ⟨sm1, hq1⟩ := newO hG ht0
    clear hG
    have hL1 := same_t sm1 hL
    have hL1' : ∃ xs, SqT K H1 a xs := ⟨_, hL1⟩
    refine ⟨_, rfl, a, rfl, hL1', for_tup (K := K) (a := a) (xs := L.map vN) (fun i σ H' => Hold (∃ (t : Addr) (s2 : Option V), σ = [some (.ref a), some (.ref t), s2, none, none] ∧ Same H H' ∧ H t = none ∧ H' t = some (.lst ((turN (L.take i)).map vN)))) (.mk ⟨t0, none, rfl, sm1, ht0, hq1⟩) ?_ ?_ ?_⟩
    · intro i σ H2 hi hP
      obtain ⟨t, s2, rfl, sm2, ht, hq2⟩ := hP.un
      exact same_t sm2 hL
    · intro i v σ H2 hv hP
      obtain ⟨t, s2, rfl, sm2, ht, hq2⟩ := hP.un
      rw [List.getElem?_map] at hv
      obtain ⟨p, hp, ev⟩ := Option.map_eq_some_iff.mp hv
      subst ev
      have hpm := List.mem_of_getElem? hp
      have p2 := hg.1 p hpm
      have hlt := tur_len (hg.take i)
      have hct := cnt_take hp
      have hc1 := (hg.take (i + 1)).2.1
      have hc0 := cnt_pos (hg.take i).1
      have hpb : 1 * p ≤ cntN (L.take i) * p := Nat.mul_le_mul_right _ hc0
      have hst := turN_take hp
      have hlo : (0 : Int) ≤ (p : Int) := by omega
      rw [hct] at hc1
      generalize turN (L.take i) = t1 at *
      have hLt : SqL K H2 t (t1.map vN) := SqL.of hq2
      have hLt' : ∃ xs, SqL K H2 t xs := ⟨_, hLt⟩
      walk_at "ev"
      intro D hD
      refine lc2_list (K := K) (a := t) (xs := t1.map vN) _ (fun i' H' => Hold (Same H2 H' ∧ H' D = some (.lst ((((t1.take i').flatMap fun n => (List.range p).map fun d => n + t1.length * d)).map vN)))) (.mk ⟨same_new hD, upd_same⟩) ?_ ?_ ?_
      · intro i' H3 hi' hP3
        obtain ⟨sm3, hD3⟩ := hP3.un
        exact sm3.seq hLt
      · intro i' v H3 hv hP3
        obtain ⟨sm3, hD3⟩ := hP3.un
        rw [List.getElem?_map] at hv
        obtain ⟨x, hx, ev⟩ := Option.map_eq_some_iff.mp hv
        subst ev
        have hil : i' < t1.length := (List.getElem?_eq_some_iff.mp hx).1
        have htk := turS_take (p := p) hx
        have hln := len_step (m := t1.length) (p := p) (t1.take i')
        rw [List.length_take, Nat.min_eq_left (by omega)] at hln
        have hib : i' * p ≤ 60 := Nat.le_trans (Nat.mul_le_mul_right _ (by omega)) hc1
        have hp6 : p ≤ 60 := by omega
        generalize (t1.take i').flatMap (fun n => (List.range p).map fun d => n + t1.length * d) = acc at *
        walk_at "ev"
        refine lc2_range (lo := 0) (n := p) (fun j H' => Hold (Same H2 H' ∧ H' D = some (.lst ((acc ++ (List.range j).map fun d => x + t1.length * d).map vN)))) (.mk ⟨sm3, by rw [hD3]; simp⟩) ?_ ?_
        · intro j H4 hj hP4
          obtain ⟨sm4, hD4⟩ := hP4.un
          have hLt4 := sm4.seq hLt
          have cm : CMul ((t1.map vN).length : Int) (0 + (j : Int)) := .inr ⟨by omega, by omega⟩
          have hsz : ((acc ++ (List.range j).map fun d => x + t1.length * d).map vN).length < sizeLine := by
            rw [List.length_map, List.length_append, List.length_map, List.length_range, hln]
            exact szm (by omega)
          walk_at "ev"
          refine .mk ⟨same_mut sm4 hD, ?_⟩
          have e2 : (acc ++ (List.range (j + 1)).map fun d => x + t1.length * d).map vN = (acc ++ (List.range j).map fun d => x + t1.length * d).map vN ++ [vN (x + t1.length * j)] := by
            simp [List.range_succ]
          have e : V.int ((x : Int) + ((t1.map vN).length : Int) * (0 + (j : Int))) = vN (x + t1.length * j) := by
            show V.int _ = V.int _
            rw [List.length_map, Int.zero_add, Int.natCast_add, Int.natCast_mul]
          rw [upd_same, e2, ← e]
        · intro H4 hP4
          obtain ⟨sm4, hD4⟩ := hP4.un
          exact .mk ⟨sm4, by rw [hD4, htk]⟩
      · intro H3 hP3
        obtain ⟨sm3, hD3⟩ := hP3.un
        rw [List.length_map, List.take_length] at hD3
        refine .mk ⟨D, _, rfl, sm2.trans sm3, sm2.free hD, ?_⟩
        rw [hD3, hst]
        rfl
    · intro σ H2 hP
      obtain ⟨t, s2, rfl, sm2, ht, hq2⟩ := hP.un
      rw [List.length_map, List.take_length] at hq2
      walk_at "ev"
      exact q _ _ ht sm2 hq2
end
/-! ### the drawing -/
theorem log2_lt60 {t : Int} (h0 : 0 < t) (h : t < 1152921504606846976) : t.natAbs.log2 < 9000 := by
  have h1 : t.natAbs < 2 ^ 60 := by
    have : (2 : Nat) ^ 60 = 1152921504606846976 := by decide
    omega
  exact Nat.lt_trans ((Nat.log2_lt (by omega)).mpr h1) (by decide)
abbrev s__law_take : Stmt := top 8
abbrev N__law_take : List Str := ["_law_box_here", "_law_top", "_law_found", "_law_once"]
abbrev P__law_take : List Str := ["_law_box_here", "_law_top"]
theorem sc__law_take : FnScope N__law_take P__law_take (defScope s__law_take) := ⟨rfl, rfl, rfl, by decide +kernel, rfl, by decide +kernel, by decide +kernel⟩
def spTake : Sp := fun vs H Q _ => ∃ (b : Addr) (top n : Int), vs = [.ref b, .int top] ∧ BoxAt H b n ∧ 0 < top ∧ top < 1152921504606846976 ∧ n < 1048576 ∧ ∀ r H', 0 ≤ r → r < top → Keep b H H' → BoxAt H' b (n + 1) → Q (.int r) H'
section
variable {P : Program} {w : World} {K : PySem.W.Frag} {mg : Str → Option Value} {base : Heap}
theorem ok_take {f : Addr} {fd : FuncData} {k : Nat} (F : Fun K "_law_take" "_law_take" s__law_take f fd) : FnOk P w K mg base CX0 (k + 1) f fd P__law_take spTake := by
  have nd := sc__law_take.nd
  refine F.ok sc__law_take (fun vs H Q E h => ?_) (fun cdv A outer s H vs Q E hr h => ?_)
  · obtain ⟨b, top, n, rfl, _⟩ := h
    rfl
  · obtain ⟨b, top, n, rfl, ⟨x, y, z, hb, hx, hy, hy2, hz, hzn⟩, ht, ht2, hn, q⟩ := h
    refine ⟨_, (pss_cons (ps_if (pt_cmpR op_gt (pe_ix (r := rIxL K) ix_list (pv 0) (pe_int) (fun _ _ => rfl)) (pe_int) (nomark _)) (pss_cons (ps_set (i := 2) nd rfl (Or.inl rfl) (pe_op op_mod (pe_ix (r := rIxL K) ix_list (pv 0) (pe_int) (fun _ _ => rfl)) (pv 1)))
      (pss_cons (ps_asg (pe_op op_fdivW (pe_ix (r := rIxL K) ix_list (pv 0) (pe_int) (fun _ _ => rfl)) (pv 1)) (pg_sub (pv 0) (pe_int) set_list))
      (pss_one (ps_ret (pv 2))))) pss_nil)
      (pss_cons (ps_asg (pe_op op_add (pe_ix (r := rIxL K) ix_list (pv 0) (pe_int) (fun _ _ => rfl)) (pe_int)) (pg_sub (pv 0) (pe_int) set_list))
      (pss_cons (ps_set (i := 3) nd rfl (Or.inl rfl) (pe_op op_mod (pe_op op_pow (pe_op op_add (pe_ix (r := rIxL K) ix_list (pv 0) (pe_int) (fun _ _ => rfl)) (pe_op op_mul (pe_int) (pe_ix (r := rIxL K) ix_list (pv 0) (pe_int) (fun _ _ => rfl)))) (pe_int)) (pe_int)))
      (pss_one (ps_ret (pe_op op_mod (pe_op op_fdivW (pe_op op_mod (pe_op op_add (pe_op op_mul (pv 3) (pe_op op_add (pe_op op_mod (pv 3) (pe_int)) (pe_int))) (pe_op op_mul (pe_ix (r := rIxL K) ix_list (pv 0) (pe_int) (fun _ _ => rfl)) (pe_int))) (pe_int)) (pe_int)) (pv 1))))))), ?_⟩
    have hL : SqL K H b [.int x, .int y, .int z] := SqL.of hb
    have cw : ∀ i : Int, CDivW i top := fun i => ⟨ht, log2_lt60 ht ht2⟩
    have cw6 : ∀ i : Int, CDivW i 64 := fun i => ⟨by decide, by decide⟩
    have cw1 := cw x
    walk_at "ev"
    refine ite2 (fun e => ?_) (fun e => ?_)
    · have e1 : 0 < x := of_decide_eq_true e
      walk_at "ev"
      exact q _ _ (Int.emod_nonneg _ (by omega)) (Int.emod_lt_of_pos _ ht) (keep_upd (Keep.refl _ _)) ⟨_, _, _, upd_same, Int.ediv_nonneg hx (by omega), hy, hy2, hz, by omega⟩
    · walk_at "ev"
      exact q _ _ (Int.emod_nonneg _ (by omega)) (Int.emod_lt_of_pos _ ht) (keep_upd (Keep.refl _ _)) ⟨_, _, _, upd_same, hx, hy, hy2, by omega, by omega⟩
end
abbrev s__law_box : Stmt := top 7
abbrev N__law_box : List Str := ["_law_script", "_law_k", "_law_cell"]
abbrev P__law_box : List Str := ["_law_script", "_law_k"]
theorem sc__law_box : FnScope N__law_box P__law_box (defScope s__law_box) := ⟨rfl, rfl, rfl, by decide +kernel, rfl, by decide +kernel, by decide +kernel⟩
def spBox (K : PySem.W.Frag) : Sp := fun vs H Q _ => ∃ (a : Addr) (ns : List Int) (k : Int), vs = [.ref a, .int k] ∧ SqL K H a (ns.map V.int) ∧ 0 ≤ k ∧ k ≤ 100000 ∧ ∀ p H', H p = none → Same H H' → BoxAt H' p 0 → Q (.ref p) H'
section
variable {P : Program} {w : World} {K : PySem.W.Frag} {mg : Str → Option Value} {base : Heap}
theorem ok_box {f : Addr} {fd : FuncData} {k : Nat} (F : Fun K "_law_box" "_law_box" s__law_box f fd) (T : Blt mg) : FnOk P w K mg base CX0 (k + 1) f fd P__law_box (spBox K) := by
  have nd := sc__law_box.nd
  refine F.ok sc__law_box (fun vs H Q E h => ?_) (fun cdv A outer s H vs Q E hr h => ?_)
  · obtain ⟨b, top, n, rfl, _⟩ := h
    rfl
  · obtain ⟨a, ns, k, rfl, hL, h0, h1, q⟩ := h
    refine ⟨_, (pss_cons (ps_set (i := 2) nd rfl (Or.inl rfl) (pe_int))
      (pss_cons (ps_if (pt_cmpR op_lt (pv 1) (pe_callB (r := rLenQ K) call_len_seq (by rfl) T.b_len (by decide +kernel) (pa_cons (pv 0) pa_nil)) (nomark _)) (pss_one (ps_set (i := 2) nd rfl (Or.inl rfl) (pe_ix (r := rIxL K) ix_list (pv 0) (pv 1) (fun _ _ => rfl)))) pss_nil)
      (pss_one (ps_ret (pe_lst (pa_cons (pe_op op_mul (pe_callB call_abs (by rfl) T.b_abs (by decide +kernel) (pa_cons (pv 2) pa_nil)) (pe_callTy call_int1 (by rfl) T.b_int (by decide +kernel) (pa_cons (pe_cmpR op_ge (pe_callB call_abs (by rfl) T.b_abs (by decide +kernel) (pa_cons (pv 2) pa_nil)) (pe_op op_pow (pe_int) (pe_int)) (nomark _)) pa_nil))) (pa_cons (pe_op op_add (pe_op op_add (pe_op op_mod (pv 2) (pe_int)) (pe_op op_mul (pe_int) (pv 1))) (pe_int)) (pa_cons (pe_int) pa_nil)))))))), ?_⟩
    have fin : ∀ c : Int, ∀ p, H p = none → Q (.ref p) (upd H p (.lst [.int ((if c < 0 then -c else c) * (if decide ((10 : Int) ^ 18 ≤ if c < 0 then -c else c) then 1 else 0)), .int (c % 2147483629 + 7919 * k + 11), .int 0])) := by
      intro c p hp
      refine q p _ hp (same_new hp) ⟨_, _, _, upd_same, ?_, ?_, ?_, by omega, by omega⟩
      · refine Int.mul_nonneg ?_ ?_
        · split <;> omega
        · split <;> omega
      · have := Int.emod_nonneg c (show (2147483629 : Int) ≠ 0 by decide)
        omega
      · have := Int.emod_lt_of_pos c (show (0 : Int) < 2147483629 by decide)
        omega
    walk_at "ev"
    refine ite2 (fun e => ?_) (fun e => ?_)
    · have e1 : k < ((ns.map V.int).length : Int) := of_decide_eq_true e
      rw [List.length_map] at e1
      obtain ⟨c, hc, hat⟩ := at_ints h0 e1
      walk_at "ev"
      exact fin c
    · walk_at "ev"
      exact fin 0
end
/-! ### kinds of things -/
inductive Kd (K : PySem.W.Frag) (H : Hp) : V → String → Prop
  | non : Kd K H .non "NoneType"
  | bl (b : Bool) : Kd K H (.bl b) "bool"
  | int (i : Int) : Kd K H (.int i) "int"
  | str (x : Str) : Kd K H (.str x) "str"
  | lst {a : Addr} {xs : List V} : SqL K H a xs → Kd K H (.ref a) "list"
  | tup {a : Addr} {xs : List V} : SqT K H a xs → Kd K H (.ref a) "tuple"
theorem Kd.ty {K : PySem.W.Frag} {H : Hp} {x : V} {t : String} (h : Kd K H x t) : TyX K H x (.type t) := by
  cases h with
  | non => exact .base .non
  | bl b => exact .base (.bl b)
  | int i => exact .base (.int i)
  | str x => exact .base (.str x)
  | lst h =>
    rcases h with (h | ⟨o, h⟩) | ⟨o, its, n, h1, h2, _⟩
    · exact .base (.lst h)
    · exact .base (.frz h)
    · exact .kList h1 h2
  | tup h =>
    rcases h with (h | ⟨o, h⟩) | ⟨o, its, n, h1, h2, _⟩
    · exact .base (.tup h)
    · exact .fTuple h
    · exact .kTuple h1 h2
theorem Kd.same {K : PySem.W.Frag} {H H' : Hp} {x : V} {t : String} (h : Kd K H x t) (e : Same H H') : Kd K H' x t := by
  cases h with
  | non => exact .non
  | bl b => exact .bl b
  | int i => exact .int i
  | str x => exact .str x
  | lst h => exact .lst (e.seq h)
  | tup h => exact .tup (same_t e h)
def tis (t c : String) : Bool := t == c || (t == "bool" && c == "int")
theorem Kd.kit {K : PySem.W.Frag} {H : Hp} {x : V} {t : String} (h : Kd K H x t) : PySem.W.kitOne K (.type t) (.type "int") = some (tis t "int") ∧ PySem.W.kitOne K (.type t) (.type "bool") = some (tis t "bool") ∧ PySem.W.kitOne K (.type t) (.type "str") = some (tis t "str") ∧ PySem.W.kitOne K (.type t) (.type "list") = some (tis t "list") ∧ PySem.W.kitOne K (.type t) (.type "tuple") = some (tis t "tuple") := by
  cases h <;> exact ⟨kit_ty (by decide +kernel), kit_ty (by decide +kernel), kit_ty (by decide +kernel), kit_ty (by decide +kernel), kit_ty (by decide +kernel)⟩
theorem kit_lt {K : PySem.W.Frag} {t : String} {a b : Bool} (h1 : PySem.W.kitOne K (.type t) (.type "list") = some a) (h2 : PySem.W.kitOne K (.type t) (.type "tuple") = some b) : PySem.W.kitAny K (.type t) [.type "list", .type "tuple"] = some (a || b) := by
  refine kitAny_cons h1 (fun e => kitAny_cons h2 (fun e2 => ?_) (fun e2 => ?_)) (fun e => by rw [e]; rfl)
  · rw [e, e2]
    exact kitAny_nil
  · rw [e, e2]
    rfl
/-! ### == of lists of ints -/
theorem dp_ints {K : PySem.W.Frag} {H : Hp} : ∀ ns : List Int, DpAll K H (ns.map V.int) (ns.map PyData.int)
  | [] => .nil
  | n :: r => .cons (.int n) (dp_ints r)
theorem eqv_ints : ∀ ns ms : List Int, PyData.eqvAll (ns.map PyData.int) (ms.map PyData.int) = decide (ns = ms)
  | [], [] => by simp [PyData.eqvAll]
  | [], _ :: _ => by simp [PyData.eqvAll]
  | _ :: _, [] => by simp [PyData.eqvAll]
  | a :: r, b :: t => by
    simp only [List.map_cons, PyData.eqvAll, PyData.eqv, eqv_ints r t]
    by_cases h : a = b <;> by_cases h' : r = t <;> simp [h, h']
theorem eqd_ints {K : PySem.W.Frag} {H : Hp} {a b : Addr} {ns ms : List Int} {Q : VK} (ha : SqL K H a (ns.map V.int)) (hb : SqL K H b (ms.map V.int)) (q : Q (.bl (decide (ns = ms))) H) : rEqD K (.ref a) (.ref b) H Q := by
  refine ⟨_, _, .lst ha (dp_ints ns), .lst hb (dp_ints ms), PySem.W.ke_shaped_ints ns, PySem.W.ke_shaped_ints ms, ?_⟩
  have e : PyData.eqv (.list (ns.map PyData.int)) (.list (ms.map PyData.int)) = decide (ns = ms) := by
    rw [PyData.eqv]
    exact eqv_ints ns ms
  rw [e]
  exact q
/-! ### the law's own comparing, of like things -/
abbrev s__law_same : Stmt := top 10
abbrev N__law_same : List Str := ["_law_found", "_law_due_here", "_law_one", "_law_two"]
abbrev P__law_same : List Str := ["_law_found", "_law_due_here"]
theorem sc__law_same : FnScope N__law_same P__law_same (defScope s__law_same) := ⟨rfl, rfl, rfl, by decide +kernel, rfl, by decide +kernel, by decide +kernel⟩
def Fit : Nat → PyData → Prop
  | 0, .list _ => False
  | 0, .tuple _ => False
  | n + 1, .list ds => ds.length ≤ 4000 ∧ ∀ e ∈ ds, Fit n e
  | n + 1, .tuple ds => ds.length ≤ 4000 ∧ ∀ e ∈ ds, Fit n e
  | _, .dict _ => False
  | _, _ => True
theorem dpall_len {K : PySem.W.Frag} {H : Hp} : ∀ {xs : List V} {ds : List PyData}, DpAll K H xs ds → xs.length = ds.length
  | _, _, .nil => rfl
  | _, _, .cons _ h => by rw [List.length_cons, List.length_cons, dpall_len h]
theorem dpall_get {K : PySem.W.Frag} {H : Hp} : ∀ {xs : List V} {ds : List PyData} {i : Nat} {x : V}, DpAll K H xs ds → xs[i]? = some x → ∃ d, ds[i]? = some d ∧ Dp K H x d
  | _, _, _, _, .nil, h => by simp at h
  | _, _, 0, _, .cons (d := d) h1 h2, h => ⟨d, rfl, by
      have e := Option.some.inj h
      rw [← e]
      exact h1⟩
  | _, _, i + 1, _, .cons h1 h2, h => dpall_get (i := i) h2 h
mutual
theorem dp_same {K : PySem.W.Frag} {H H' : Hp} (e : Same H H') : ∀ {x : V} {d : PyData}, Dp K H x d → Dp K H' x d
  | _, _, .non => .non
  | _, _, .bl b => .bl b
  | _, _, .int i => .int i
  | _, _, .str x => .str x
  | _, _, .lst h a => .lst (e.seq h) (dpall_same e a)
  | _, _, .tup h a => .tup (same_t e h) (dpall_same e a)
theorem dpall_same {K : PySem.W.Frag} {H H' : Hp} (e : Same H H') : ∀ {xs : List V} {ds : List PyData}, DpAll K H xs ds → DpAll K H' xs ds
  | _, _, .nil => .nil
  | _, _, .cons h a => .cons (dp_same e h) (dpall_same e a)
end
def spSame (K : PySem.W.Frag) (n : Nat) : Sp := fun vs H Q _ => ∃ (x y : V) (d : PyData), vs = [x, y] ∧ Dp K H x d ∧ Dp K H y d ∧ Fit n d ∧ ∀ H', Same H H' → Q (.bl true) H'
/-- a comprehension over pairs -/
theorem lc_pairs {J : It} {xs ys : List V} {g : TG} {tt : TT} {te : TE} {vs : List Nat} {σ : L2.St} {H1 : Hp} {D : Addr} {Qd : Hp → Prop} (Pv : Nat → Hp → Prop) (h0 : Pv 0 (upd H1 D (.lst [])))
    (hgo : ∀ i H, Pv i H → i < xs.length → J.go i H) (hy : ∀ i H v H', Pv i H → i < xs.length → J.yld i H v H' → ∃ T x y, v = .ref T ∧ H T = none ∧ H' = upd H T (.tup [x, y]) ∧ xs[i]? = some x ∧ ys[i]? = some y)
    (hst : ∀ H, Pv xs.length H → J.stop xs.length H)
    (hs : ∀ i x y T H H', xs[i]? = some x → ys[i]? = some y → Pv i H → H T = none → H' = upd H T (.tup [x, y]) → g (.ref T) (wipe σ vs) H' fun σ2 H2 => wipe σ2 vs = wipe σ vs ∧ tt σ2 H2 fun b H3 =>
      if b = true then te σ2 H3 fun y H4 => ∃ acc, H4 D = some (.lst acc) ∧ acc.length < sizeLine ∧ Pv (i + 1) (upd H4 D (.lst (acc ++ [y]))) else Pv (i + 1) H3) (hd : ∀ H, Pv xs.length H → Qd H) :
    ∃ W : Nat → Nat → Hp → Prop, (∃ m, W 0 m (upd H1 D (.lst []))) ∧ ∀ i m H, W i m H →
      (J.stop i H ∧ Qd H) ∨ (J.go i H ∧ ∃ Nx : Hp → Prop, (∀ H', Nx H' → ∃ m', m' < m ∧ W (i + 1) m' H') ∧ ∀ x H', J.yld i H x H' → g x (wipe σ vs) H' fun σ2 H2 => wipe σ2 vs = wipe σ vs ∧ tt σ2 H2 fun b H3 =>
        if b = true then te σ2 H3 fun y H4 => ∃ acc, H4 D = some (.lst acc) ∧ acc.length < sizeLine ∧ Nx (upd H4 D (.lst (acc ++ [y]))) else Nx H3) := by
  refine ⟨fun i m H => m = xs.length - i ∧ i ≤ xs.length ∧ Pv i H, ⟨xs.length, by simp, Nat.zero_le _, h0⟩, ?_⟩
  rintro i m H ⟨rfl, hi, p⟩
  by_cases hlt : i < xs.length
  · refine .inr ⟨hgo i H p hlt, Pv (i + 1), fun H' p' => ⟨xs.length - (i + 1), by omega, rfl, hlt, p'⟩, fun v H' yl => ?_⟩
    obtain ⟨T, x, y, rfl, hT, e, f1, f2⟩ := hy i H v H' p hlt yl
    exact hs i x y T H H' f1 f2 p hT e
  · have e : i = xs.length := by omega
    subst e
    exact .inl ⟨hst H p, hd H p⟩
theorem q_dec {Q : VK} {x : V} {H : Hp} (h : Q (.bl true) H) : Q (.bl (decide (x = x))) H := by
  rw [decide_eq_true rfl]
  exact h
theorem all_true : ∀ n : Nat, (List.replicate n true).all id = true
  | 0 => rfl
  | n + 1 => by
    rw [List.replicate_succ, List.all_cons, all_true n]
    rfl
section
variable {P : Program} {w : World} {K : PySem.W.Frag} {mg : Str → Option Value} {base : Heap}
theorem same_step {f : Addr} {fd : FuncData} {n : Nat} {spI : Sp} (D__law_same : Df K mg "_law_same" s__law_same P__law_same f fd) (T : Blt mg) (G__law_same : FnOk P w K mg base CX0 n f fd P__law_same spI) (hG : ∀ m, n = m + 1 → spI = spSame K m) : FnOk P w K mg base CX0 (n + 1) f fd P__law_same (spSame K n) := by
  have nd := sc__law_same.nd
  refine D__law_same.F.ok sc__law_same (fun vs H Q E h => ?_) (fun cdv A outer s H vs Q E hr h => ?_)
  · obtain ⟨x, y, d, rfl, _⟩ := h
    rfl
  · obtain ⟨x, y, d, rfl, hx, hy, hf, q⟩ := h
    refine ⟨_, (pss_cons (ps_if (pt_val (pe_callB (r := rIsiT K) call_isiT (by rfl) T.b_isinstance (by decide +kernel) (pa_cons (pv 1) (pa_cons (pe_tup (pa_cons (pe_bltn (v := .ty "list") (by rfl) T.b_list (by decide +kernel) rfl) (pa_cons (pe_bltn (v := .ty "tuple") (by rfl) T.b_tuple (by decide +kernel) rfl) pa_nil))) pa_nil)))) (pss_cons (ps_if (PW.pt (pw_or (pt_cmpR op_ne (pe_callB (r := rIsi K) call_isi (by rfl) T.b_isinstance (by decide +kernel) (pa_cons (pv 0) (pa_cons (pe_bltn (v := .ty "list") (by rfl) T.b_list (by decide +kernel) rfl) pa_nil))) (pe_callB (r := rIsi K) call_isi (by rfl) T.b_isinstance (by decide +kernel) (pa_cons (pv 1) (pa_cons (pe_bltn (v := .ty "list") (by rfl) T.b_list (by decide +kernel) rfl) pa_nil))) (nomark _)) (pw_or1 (pt_cmpR op_ne (pe_callB (r := rIsi K) call_isi (by rfl) T.b_isinstance (by decide +kernel) (pa_cons (pv 0) (pa_cons (pe_bltn (v := .ty "tuple") (by rfl) T.b_tuple (by decide +kernel) rfl) pa_nil))) (pe_callB (r := rIsi K) call_isi (by rfl) T.b_isinstance (by decide +kernel) (pa_cons (pv 1) (pa_cons (pe_bltn (v := .ty "tuple") (by rfl) T.b_tuple (by decide +kernel) rfl) pa_nil))) (nomark _))))) (pss_one (ps_ret (pe_bl))) pss_nil)
      (pss_cons (ps_if (pt_cmpR op_ne (pe_callB (r := rLenQ K) call_len_seq (by rfl) T.b_len (by decide +kernel) (pa_cons (pv 0) pa_nil)) (pe_callB (r := rLenQ K) call_len_seq (by rfl) T.b_len (by decide +kernel) (pa_cons (pv 1) pa_nil)) (nomark _)) (pss_one (ps_ret (pe_bl))) pss_nil)
      (pss_one (ps_ret (pe_callB (r := rAll K) (cr_all rfl) (by rfl) T.b_all (by decide +kernel) (pa_cons (pe_lc (own := [("_law_one", 2), ("_law_two", 3)]) (g := gTup K 2 (gCons (gName 2) (gCons (gName 3) gNil))) (by rfl) nd (RZ.pi_zipA (by rfl) T.b_zip (pa_cons (pv 0) (pa_cons (pv 1) pa_nil))) (blkOk_by (own := [("_law_one", 2), ("_law_two", 3)]) (N := N__law_same) (sc := defScope s__law_same) (by decide +kernel)) (fun _ _ _ _ _ => (pg_tup (by rfl) (pgs_cons (pg_name (i := 2) nd rfl (Or.inl rfl)) (pgs_cons (pg_name (i := 3) nd rfl (Or.inl rfl)) pgs_nil)))) (fun _ _ _ _ _ => pts_nil) (fun _ _ _ _ _ => (pe_call G__law_same (hr.mono (by omega)) (by rfl) D__law_same.g D__law_same.F.kp D__law_same.b .nil pass0 (pa_cons (pv 2) (pa_cons (pv 3) pa_nil))))) pa_nil)))))) pss_nil)
      (pss_cons (ps_if (PW.pt (pw_or (pt_cmpR op_isN (pv 1) (pe_non) (nomark _)) (pw_or1 (pt_val (pe_callB (r := rIsi K) call_isi (by rfl) T.b_isinstance (by decide +kernel) (pa_cons (pv 1) (pa_cons (pe_bltn (v := .ty "str") (by rfl) T.b_str (by decide +kernel) rfl) pa_nil))))))) (pss_one (ps_ret (pe_and (pe_cmpR op_eq (pv 0) (pv 1) (nomark _)) (pe_one (pe_cmpR op_eq (pe_callB (r := rIsi K) call_isi (by rfl) T.b_isinstance (by decide +kernel) (pa_cons (pv 0) (pa_cons (pe_bltn (v := .ty "str") (by rfl) T.b_str (by decide +kernel) rfl) pa_nil))) (pe_callB (r := rIsi K) call_isi (by rfl) T.b_isinstance (by decide +kernel) (pa_cons (pv 1) (pa_cons (pe_bltn (v := .ty "str") (by rfl) T.b_str (by decide +kernel) rfl) pa_nil))) (nomark _)))))) pss_nil)
      (pss_one (ps_ret (pe_and (pe_callB (r := rIsi K) call_isi (by rfl) T.b_isinstance (by decide +kernel) (pa_cons (pv 0) (pa_cons (pe_bltn (v := .ty "int") (by rfl) T.b_int (by decide +kernel) rfl) pa_nil))) (pe_and (pe_cmpR op_eq (pe_callB (r := rIsi K) call_isi (by rfl) T.b_isinstance (by decide +kernel) (pa_cons (pv 0) (pa_cons (pe_bltn (v := .ty "bool") (by rfl) T.b_bool (by decide +kernel) rfl) pa_nil))) (pe_callB (r := rIsi K) call_isi (by rfl) T.b_isinstance (by decide +kernel) (pa_cons (pv 1) (pa_cons (pe_bltn (v := .ty "bool") (by rfl) T.b_bool (by decide +kernel) rfl) pa_nil))) (nomark _)) (pe_one (pe_cmpR op_eq (pv 0) (pv 1) (nomark _))))))))), ?_⟩
    cases hx with
    | non =>
      cases hy
      walk_at "ev"
      intro p hp
      generalize hH : upd _ p _ = H1
      obtain ⟨sm, hp1⟩ := newO hH hp
      have kd : Kd K H1 .non "NoneType" := .non
      have ty := kd.ty
      obtain ⟨k1, k2, k3, k4, k5⟩ := kd.kit
      have ka := kit_lt k4 k5
      walk_at "ev"
      exact q_dec (q _ sm)
    | bl b =>
      cases hy
      walk_at "ev"
      intro p hp
      generalize hH : upd _ p _ = H1
      obtain ⟨sm, hp1⟩ := newO hH hp
      have kd : Kd K H1 (.bl b) "bool" := .bl b
      have ty := kd.ty
      obtain ⟨k1, k2, k3, k4, k5⟩ := kd.kit
      have ka := kit_lt k4 k5
      walk_at "ev"
      exact q_dec (q _ sm)
    | int i =>
      cases hy
      walk_at "ev"
      intro p hp
      generalize hH : upd _ p _ = H1
      obtain ⟨sm, hp1⟩ := newO hH hp
      have kd : Kd K H1 (.int i) "int" := .int i
      have ty := kd.ty
      obtain ⟨k1, k2, k3, k4, k5⟩ := kd.kit
      have ka := kit_lt k4 k5
      walk_at "ev"
      exact q_dec (q _ sm)
    | str z =>
      cases hy
      walk_at "ev"
      intro p hp
      generalize hH : upd _ p _ = H1
      obtain ⟨sm, hp1⟩ := newO hH hp
      have kd : Kd K H1 (.str z) "str" := .str z
      have ty := kd.ty
      obtain ⟨k1, k2, k3, k4, k5⟩ := kd.kit
      have ka := kit_lt k4 k5
      walk_at "ev"
      exact q_dec (q _ sm)
    | lst hs ha =>
      rename_i a xs ds
      cases hy with
      | lst ht hb =>
      rename_i b ys
      have el : ys.length = xs.length := (dpall_len hb).trans (dpall_len ha).symm
      have el' : V.int (xs.length : Int) = V.int (ys.length : Int) := by rw [el]
      cases n with
      | zero => exact hf.elim
      | succ n =>
      have hf' : ds.length ≤ 4000 ∧ ∀ e ∈ ds, Fit n e := hf
      have hS := hG n rfl
      subst hS
      walk_at "ev"
      intro p hp
      generalize hH : upd _ p _ = H1
      obtain ⟨sm, hp1⟩ := newO hH hp
      have hs1 := sm.seq hs
      have ht1 := sm.seq ht
      have kd : Kd K H1 (.ref a) "list" := .lst hs1
      have ty := kd.ty
      have kd' : Kd K H1 (.ref b) "list" := .lst ht1
      have ty' := kd'.ty
      obtain ⟨k1, k2, k3, k4, k5⟩ := kd.kit
      have ka := kit_lt k4 k5
      walk_at "ev"
      refine .inl ⟨hs1, ht1, fun D hD => ?_⟩
      refine lc_pairs (xs := xs) (ys := ys) (fun i H' => Hold (Same H1 H' ∧ H' D = some (.lst ((List.replicate i true).map V.bl)))) (.mk ⟨same_new hD, upd_same⟩) ?_ ?_ ?_ ?_ ?_
      · intro i H' hP hi
        obtain ⟨sm2, hD2⟩ := hP.un
        have hi2 : i < ys.length := by omega
        exact ⟨xs, ys, _, _, sm2.seq hs1, sm2.seq ht1, List.getElem?_eq_getElem hi, List.getElem?_eq_getElem hi2⟩
      · intro i H' v H'' hP hi yl
        obtain ⟨sm2, hD2⟩ := hP.un
        obtain ⟨T, x, y, e1, e2, e3, f1, f2⟩ := yl
        exact ⟨T, x, y, e1, e2, e3, f1 _ (sm2.seq hs1), f2 _ (sm2.seq ht1)⟩
      · intro H' hP
        obtain ⟨sm2, hD2⟩ := hP.un
        exact ⟨xs, ys, sm2.seq hs1, sm2.seq ht1, .inl (Nat.le_refl _)⟩
      · intro i x y T' H' H'' hx hy hP hT e
        obtain ⟨sm2, hD2⟩ := hP.un
        obtain ⟨sm3, hT3⟩ := newO e.symm hT
        have hT4 : SqT K H'' T' [x, y] := SqT.of hT3
        obtain ⟨d, hd, hdx⟩ := dpall_get ha hx
        obtain ⟨d', hd', hdy⟩ := dpall_get hb hy
        have ed : d' = d := Option.some.inj (hd'.symm.trans hd)
        subst ed
        have sm4 : Same H H'' := (sm.trans sm2).trans sm3
        have dx := dp_same sm4 hdx
        have dy := dp_same sm4 hdy
        have ft := hf'.2 _ (List.mem_of_getElem? hd)
        have hil : i < xs.length := (List.getElem?_eq_some_iff.mp hx).1
        have hdl := dpall_len ha
        have hlen : i ≤ 4000 := by omega
        walk_at "ev"
        intro H5 sm5
        have hD5 := sm5 _ _ (sm3 _ _ hD2)
        refine ⟨_, hD5, szm (by simp; omega), .mk ⟨same_mut ((sm2.trans sm3).trans sm5) hD, ?_⟩⟩
        rw [upd_same, List.replicate_succ', List.map_append]
        rfl
      · intro H' hP
        obtain ⟨sm2, hD2⟩ := hP.un
        refine ⟨D, List.replicate xs.length true, rfl, SqL.of hD2, ?_⟩
        rw [all_true]
        exact q _ (sm.trans sm2)
    | tup hs ha =>
      rename_i a xs ds
      cases hy with
      | tup ht hb =>
      rename_i b ys
      have el : ys.length = xs.length := (dpall_len hb).trans (dpall_len ha).symm
      have el' : V.int (xs.length : Int) = V.int (ys.length : Int) := by rw [el]
      cases n with
      | zero => exact hf.elim
      | succ n =>
      have hf' : ds.length ≤ 4000 ∧ ∀ e ∈ ds, Fit n e := hf
      have hS := hG n rfl
      subst hS
      walk_at "ev"
      intro p hp
      generalize hH : upd _ p _ = H1
      obtain ⟨sm, hp1⟩ := newO hH hp
      have hs1 := same_t sm hs
      have ht1 := same_t sm ht
      have kd : Kd K H1 (.ref a) "tuple" := .tup hs1
      have ty := kd.ty
      have kd' : Kd K H1 (.ref b) "tuple" := .tup ht1
      have ty' := kd'.ty
      obtain ⟨k1, k2, k3, k4, k5⟩ := kd.kit
      have ka := kit_lt k4 k5
      walk_at "ev"
      refine .inr ⟨hs1, ht1, fun D hD => ?_⟩
      refine lc_pairs (xs := xs) (ys := ys) (fun i H' => Hold (Same H1 H' ∧ H' D = some (.lst ((List.replicate i true).map V.bl)))) (.mk ⟨same_new hD, upd_same⟩) ?_ ?_ ?_ ?_ ?_
      · intro i H' hP hi
        obtain ⟨sm2, hD2⟩ := hP.un
        have hi2 : i < ys.length := by omega
        exact ⟨xs, ys, _, _, same_t sm2 hs1, same_t sm2 ht1, List.getElem?_eq_getElem hi, List.getElem?_eq_getElem hi2⟩
      · intro i H' v H'' hP hi yl
        obtain ⟨sm2, hD2⟩ := hP.un
        obtain ⟨T, x, y, e1, e2, e3, f1, f2⟩ := yl
        exact ⟨T, x, y, e1, e2, e3, f1 _ (same_t sm2 hs1), f2 _ (same_t sm2 ht1)⟩
      · intro H' hP
        obtain ⟨sm2, hD2⟩ := hP.un
        exact ⟨xs, ys, same_t sm2 hs1, same_t sm2 ht1, .inl (Nat.le_refl _)⟩
      · intro i x y T' H' H'' hx hy hP hT e
        obtain ⟨sm2, hD2⟩ := hP.un
        obtain ⟨sm3, hT3⟩ := newO e.symm hT
        have hT4 : SqT K H'' T' [x, y] := SqT.of hT3
        obtain ⟨d, hd, hdx⟩ := dpall_get ha hx
        obtain ⟨d', hd', hdy⟩ := dpall_get hb hy
        have ed : d' = d := Option.some.inj (hd'.symm.trans hd)
        subst ed
        have sm4 : Same H H'' := (sm.trans sm2).trans sm3
        have dx := dp_same sm4 hdx
        have dy := dp_same sm4 hdy
        have ft := hf'.2 _ (List.mem_of_getElem? hd)
        have hil : i < xs.length := (List.getElem?_eq_some_iff.mp hx).1
        have hdl := dpall_len ha
        have hlen : i ≤ 4000 := by omega
        walk_at "ev"
        intro H5 sm5
        have hD5 := sm5 _ _ (sm3 _ _ hD2)
        refine ⟨_, hD5, szm (by simp; omega), .mk ⟨same_mut ((sm2.trans sm3).trans sm5) hD, ?_⟩⟩
        rw [upd_same, List.replicate_succ', List.map_append]
        rfl
      · intro H' hP
        obtain ⟨sm2, hD2⟩ := hP.un
        refine ⟨D, List.replicate xs.length true, rfl, SqL.of hD2, ?_⟩
        rw [all_true]
        exact q _ (sm.trans sm2)
theorem ok_same {f : Addr} {fd : FuncData} (D__law_same : Df K mg "_law_same" s__law_same P__law_same f fd) (T : Blt mg) : ∀ n : Nat, FnOk P w K mg base CX0 (n + 1) f fd P__law_same (spSame K n)
  | 0 => same_step (spI := fun _ _ _ _ => False) D__law_same T ⟨fun _ _ _ _ h => h.elim, fun _ _ _ _ _ _ _ _ _ _ _ _ _ h => h.elim⟩ (fun m h => by omega)
  | n + 1 => same_step D__law_same T (ok_same D__law_same T n) (fun m h => by cases h; rfl)
end
theorem srt_ext : ∀ {l m : List Int}, l.Pairwise (· < ·) → m.Pairwise (· < ·) → (∀ k, k ∈ l ↔ k ∈ m) → l = m
  | [], [], _, _, _ => rfl
  | [], y :: m, _, _, h => by
    have := (h y).mpr List.mem_cons_self
    simp at this
  | x :: l, [], _, _, h => by
    have := (h x).mp List.mem_cons_self
    simp at this
  | x :: l, y :: m, hl, hm, h => by
    obtain ⟨hx, hl'⟩ := List.pairwise_cons.mp hl
    obtain ⟨hy, hm'⟩ := List.pairwise_cons.mp hm
    have e : x = y := by
      have a1 := (h x).mp List.mem_cons_self
      have a2 := (h y).mpr List.mem_cons_self
      rcases List.mem_cons.mp a1 with e | e
      · exact e
      · rcases List.mem_cons.mp a2 with e2 | e2
        · exact e2.symm
        · have := hy x e
          have := hx y e2
          omega
    subst e
    rw [srt_ext hl' hm' fun k => ?_]
    constructor
    · intro hk
      rcases List.mem_cons.mp ((h k).mp (List.mem_cons_of_mem _ hk)) with e | e
      · have := hx k hk
        omega
      · exact e
    · intro hk
      rcases List.mem_cons.mp ((h k).mpr (List.mem_cons_of_mem _ hk)) with e | e
      · have := hy k hk
        omega
      · exact e
abbrev s_is_whole : Stmt := top 1
abbrev N_is_whole : List Str := ["thing"]
abbrev P_is_whole : List Str := ["thing"]
theorem sc_is_whole : FnScope N_is_whole P_is_whole (defScope s_is_whole) := ⟨rfl, rfl, rfl, by decide +kernel, rfl, by decide +kernel, by decide +kernel⟩
def spWhole (K : PySem.W.Frag) : Sp := fun vs H Q _ => ∃ (x : V) (t : String), vs = [x] ∧ Kd K H x t ∧ Q (.bl (t == "int")) H
section
variable {P : Program} {w : World} {K : PySem.W.Frag} {mg : Str → Option Value} {base : Heap}
theorem ok_whole {f : Addr} {fd : FuncData} {k : Nat} (F : Fun K "is_whole" "is_whole" s_is_whole f fd) (T : Blt mg) : FnOk P w K mg base CX0 (k + 1) f fd P_is_whole (spWhole K) := by
  have nd := sc_is_whole.nd
  refine F.ok sc_is_whole (fun vs H Q E h => ?_) (fun cdv A outer s H vs Q E hr h => ?_)
  · obtain ⟨x, t, rfl, _⟩ := h
    rfl
  · obtain ⟨x, t, rfl, kd, q⟩ := h
    refine ⟨_, (pss_one (ps_ret (pe_and (pe_callB (r := rIsi K) call_isi (by rfl) T.b_isinstance (by decide +kernel) (pa_cons (pv 0) (pa_cons (pe_bltn (v := .ty "int") (by rfl) T.b_int (by decide +kernel) rfl) pa_nil))) (pe_one (pe_not (pe_callB (r := rIsi K) call_isi (by rfl) T.b_isinstance (by decide +kernel) (pa_cons (pv 0) (pa_cons (pe_bltn (v := .ty "bool") (by rfl) T.b_bool (by decide +kernel) rfl) pa_nil)))))))), ?_⟩
    have ty := kd.ty
    obtain ⟨k1, k2, k3, k4, k5⟩ := kd.kit
    walk_at "ev"
    cases kd
    all_goals (walk_at "ev"; exact q)
end
/-! ### a loop over enumerate -/
theorem for_enumL {K : PySem.W.Frag} {a : Addr} {xs : List V} {g : TG} {tb : TS} {D : Ends} {σ : L2.St} {H : Hp} (Pv : Nat → L2.St → Hp → Prop) (h0 : Pv 0 σ H) (hq : ∀ i σ H, Pv i σ H → SqL K H a xs)
    (hs : ∀ (i : Nat) (x : V) (T : Addr) (σ : L2.St) (H : Hp), xs[i]? = some x → Pv i σ H → H T = none → g (.ref T) σ (upd H T (.tup [.int (i : Nat), x])) fun σ2 H2 => tb { D with nx := Pv (i + 1), ct := Pv (i + 1), bk := D.nx } σ2 H2) (hd : ∀ σ H, Pv xs.length σ H → D.nx σ H) :
    ∃ W : Nat → Nat → L2.St → Hp → Prop, (∃ m, W 0 m σ H) ∧ ∀ i m σ H, W i m σ H →
      ((Ite K a).stop i H ∧ D.nx σ H) ∨ ((Ite K a).go i H ∧ ∃ N : L2.St → Hp → Prop, (∀ σ' H', N σ' H' → ∃ m', m' < m ∧ W (i + 1) m' σ' H') ∧ ∀ v H', (Ite K a).yld i H v H' → g v σ H' fun σ2 H2 => tb { D with nx := N, ct := N, bk := D.nx } σ2 H2) := by
  refine ⟨fun i m σ H => m = xs.length - i ∧ i ≤ xs.length ∧ Pv i σ H, ⟨xs.length, rfl, Nat.zero_le _, h0⟩, ?_⟩
  rintro i m σ H ⟨rfl, hi, p⟩
  have q := hq i σ H p
  by_cases hlt : i < xs.length
  · refine .inr ⟨⟨xs, xs[i], q, List.getElem?_eq_getElem hlt⟩, Pv (i + 1), fun σ' H' p' => ⟨xs.length - (i + 1), by omega, rfl, hlt, p'⟩, fun v H' y => ?_⟩
    obtain ⟨T, x', rfl, hT, rfl, f1⟩ := y
    exact hs i x' T σ H (f1 xs q) p hT
  · have e : i = xs.length := by omega
    subst e
    exact .inl ⟨⟨xs, q, Nat.le_refl _⟩, hd σ H p⟩
theorem ned_ints {K : PySem.W.Frag} {H : Hp} {a b : Addr} {ns ms : List Int} {Q : VK} (ha : SqL K H a (ns.map V.int)) (hb : SqL K H b (ms.map V.int)) (q : Q (.bl (!decide (ns = ms))) H) : rNeD K (.ref a) (.ref b) H Q := by
  refine ⟨_, _, .lst ha (dp_ints ns), .lst hb (dp_ints ms), PySem.W.ke_shaped_ints ns, PySem.W.ke_shaped_ints ms, ?_⟩
  have e : PyData.eqv (.list (ns.map PyData.int)) (.list (ms.map PyData.int)) = decide (ns = ms) := by
    rw [PyData.eqv]
    exact eqv_ints ns ms
  rw [e]
  exact q
theorem ixn_of {n j : Nat} {i : Int} (h : j < n) (e : i = (j : Int)) : ixN n i = some j := by
  subst e
  unfold ixN
  simp [h]
abbrev s__law_folded : Stmt := top 9
abbrev N__law_folded : List Str := ["_law_script", "_law_count", "_law_cells", "_law_k", "_law_cell"]
abbrev P__law_folded : List Str := ["_law_script", "_law_count"]
theorem sc__law_folded : FnScope N__law_folded P__law_folded (defScope s__law_folded) := ⟨rfl, rfl, rfl, by decide +kernel, rfl, by decide +kernel, by decide +kernel⟩
def spFold (K : PySem.W.Frag) : Sp := fun vs H Q _ => ∃ (a : Addr) (ns : List Int), vs = [.ref a, .int 4] ∧ SqL K H a (ns.map V.int) ∧ ns.length ≤ 63 ∧ ∀ p (cs : List Int) H', 1 ≤ cs.length → cs.length ≤ 4 → H p = none → Same H H' → H' p = some (.lst (cs.map V.int)) → Q (.ref p) H'
section
variable {P : Program} {w : World} {K : PySem.W.Frag} {mg : Str → Option Value} {base : Heap}
theorem ok_fold {f : Addr} {fd : FuncData} {k : Nat} (F : Fun K "_law_folded" "_law_folded" s__law_folded f fd) (T : Blt mg) : FnOk P w K mg base CX0 (k + 1) f fd P__law_folded (spFold K) := by
  have nd := sc__law_folded.nd
  refine F.ok sc__law_folded (fun vs H Q E h => ?_) (fun cdv A outer s H vs Q E hr h => ?_)
  · obtain ⟨a, ns, rfl, _⟩ := h
    rfl
  · obtain ⟨a, ns, rfl, hL, hlen, q⟩ := h
    refine ⟨_, (pss_cons (ps_set (i := 2) nd rfl (Or.inl rfl) (pe_callTy call_list_of (by rfl) T.b_list (by decide +kernel) (pa_cons (pe_slice (r := rSlL K) sl_list (pv 0) po_none (po_some (pv 1))) pa_nil)))
      (pss_cons (ps_for PassesOwn.never rfl (pi_enum (by rfl) T.b_enumerate (pa_cons (pe_slice (r := rSlL K) sl_list (pv 0) (po_some (pv 1)) (po_some (pe_int))) pa_nil)) (pg_tup (by rfl) (pgs_cons (pg_name (i := 3) nd rfl (Or.inl rfl)) (pgs_cons (pg_name (i := 4) nd rfl (Or.inl rfl)) pgs_nil)))
      (pss_one (ps_asg (pe_op op_add (pe_ix (r := rIxL K) ix_list (pv 2) (pe_op op_mod (pv 3) (pv 1)) (fun _ _ => rfl)) (pe_op op_mul (pv 4) (pe_op op_add (pv 3) (pe_int)))) (pg_sub (pv 2) (pe_op op_mod (pv 3) (pv 1)) set_list))))
      (pss_one (ps_ret (pe_ifExp (pt_cmpR (r := rNeD K) (op_neD hr.units) (pv 2) (pe_lst pa_nil) (nomark _)) (pv 2) (pe_lst (pa_cons (pe_int) pa_nil))))))), ?_⟩
    have e1 : cutV (ns.map V.int) none (some 4) = (ns.take (min 4 ns.length)).map V.int := by
      rw [List.map_take]
      have : cutV (ns.map V.int) none (some 4) = (ns.map V.int).take (min 4 (ns.map V.int).length) := rfl
      rw [this, List.length_map]
    have e2 : cutV (ns.map V.int) (some 4) (some 63) = ((ns.drop (min 4 ns.length)).take (min 63 ns.length - min 4 ns.length)).map V.int := by
      rw [List.map_take, List.map_drop]
      have : cutV (ns.map V.int) (some 4) (some 63) = ((ns.map V.int).drop (min 4 (ns.map V.int).length)).take (min 63 (ns.map V.int).length - min 4 (ns.map V.int).length) := rfl
      rw [this, List.length_map]
    have hl0 : (ns.take (min 4 ns.length)).length = min 4 ns.length := by rw [List.length_take]; omega
    have hl9 : ((ns.drop (min 4 ns.length)).take (min 63 ns.length - min 4 ns.length)).length = ns.length - min 4 ns.length := by
      rw [List.length_take, List.length_drop]
      omega
    generalize (ns.drop (min 4 ns.length)).take (min 63 ns.length - min 4 ns.length) = ms at *
    generalize ns.take (min 4 ns.length) = c0 at *
    walk_at "ev"
    intro p1 hp1
    generalize hG : upd _ p1 _ = H1
    obtain ⟨sm1, hq1⟩ := newO hG hp1
    clear hG
    rw [e1] at hq1
    have hl1 : SqL K H1 p1 (c0.map V.int) ∨ SqT K H1 p1 (c0.map V.int) := .inl (SqL.of hq1)
    walk_at "ev"
    intro p2 hp2
    generalize hG : upd _ p2 _ = H2
    obtain ⟨sm2, hq2⟩ := newO hG hp2
    clear hG
    have sm02 := sm1.trans sm2
    have hL2 := sm02.seq hL
    have hp20 : H p2 = none := sm1.free hp2
    walk_at "ev"
    intro p3 hp3
    generalize hG : upd _ p3 _ = H3
    obtain ⟨sm3, hq3⟩ := newO hG hp3
    clear hG
    rw [e2] at hq3
    have hL3 : SqL K H3 p3 (ms.map V.int) := SqL.of hq3
    have n32 : p3 ≠ p2 := (ne_of_none hq2 hp3).symm
    refine ⟨p3, _, rfl, hL3, for_enumL (K := K) (a := p3) (xs := ms.map V.int) (fun i σ H' => Hold (∃ (cs : List Int) (s3 s4 : Option V), σ = [some (.ref a), some (.int 4), some (.ref p2), s3, s4] ∧ cs.length = min 4 ns.length ∧ Same H H' ∧ H' p3 = some (.lst (ms.map V.int)) ∧ H' p2 = some (.lst (cs.map V.int)))) (.mk ⟨c0, none, none, rfl, hl0, sm02.trans sm3, hq3, sm3 _ _ hq2⟩) ?_ ?_ ?_⟩
    · intro i σ H4 hP
      obtain ⟨cs, s3, s4, rfl, hcl, sm4, h3, h2⟩ := hP.un
      exact SqL.of h3
    · intro i v T' σ H4 hv hP hT
      obtain ⟨cs, s3, s4, rfl, hcl, sm4, h3, h2⟩ := hP.un
      rw [List.getElem?_map] at hv
      obtain ⟨x, hx, ev⟩ := Option.map_eq_some_iff.mp hv
      subst ev
      have hil : i < ms.length := (List.getElem?_eq_some_iff.mp hx).1
      have hc4 : cs.length = 4 := by omega
      generalize hG : upd _ T' _ = H5
      obtain ⟨sm5, hq5⟩ := newO hG hT
      clear hG
      have hT5 : SqT K H5 T' [.int (i : Nat), .int x] := SqT.of hq5
      have h25 := sm5 _ _ h2
      have hL25 : SqL K H5 p2 (cs.map V.int) := SqL.of h25
      have hi4 : i % 4 < cs.length := by omega
      have hat : atI (cs.map V.int) ((i : Int) % 4) = some (.int cs[i % 4]) := at_of (j := i % 4) (by omega) (by rw [List.getElem?_map, List.getElem?_eq_getElem hi4]; rfl)
      have cm : CMul x ((i : Int) + 2) := .inr ⟨by omega, by omega⟩
      have hix : ixN (cs.map V.int).length ((i : Int) % 4) = some (i % 4) := ixn_of (by rw [List.length_map]; exact hi4) (by omega)
      walk_at "ev"
      refine .mk ⟨cs.set (i % 4) (cs[i % 4] + x * ((i : Int) + 2)), _, _, rfl, by rw [List.length_set]; exact hcl, same_mut (sm4.trans sm5) hp20, ?_, ?_⟩
      · rw [upd_ne n32]
        exact sm5 _ _ h3
      · rw [upd_same, List.map_set]
    · intro σ H4 hP
      obtain ⟨cs, s3, s4, rfl, hcl, sm4, h3, h2⟩ := hP.un
      walk_at "ev"
      intro p5 hp5
      generalize hG : upd _ p5 _ = H5
      obtain ⟨sm5, hq5⟩ := newO hG hp5
      clear hG
      have h25 := sm5 _ _ h2
      refine ned_ints (ns := cs) (ms := []) (SqL.of h25) (SqL.of hq5) ?_
      by_cases c : cs = []
      · rw [decide_eq_true c]
        walk_at "ev"
        intro p6 hp6
        generalize hG : upd _ p6 _ = H6
        obtain ⟨sm6, hq6⟩ := newO hG hp6
        exact q p6 [0] _ (by decide) (by decide) ((sm4.trans sm5).free hp6) (sm4.trans (sm5.trans sm6)) hq6
      · rw [decide_eq_false c]
        have hc1 : 0 < cs.length := List.length_pos_iff.mpr c
        walk_at "ev"
        exact q p2 cs _ (by omega) (by omega) hp20 (sm4.trans sm5) h25
end
abbrev s__law_parts : Stmt := top 11
abbrev N__law_parts : List Str := ["_law_box_here", "_law_found", "_law_left", "_law_turn", "_law_part"]
abbrev P__law_parts : List Str := ["_law_box_here"]
theorem sc__law_parts : FnScope N__law_parts P__law_parts (defScope s__law_parts) := ⟨rfl, rfl, rfl, by decide +kernel, rfl, by decide +kernel, by decide +kernel⟩
def spPts : Sp := fun vs H Q _ => ∃ (b : Addr) (n : Int), vs = [.ref b] ∧ BoxAt H b n ∧ n < 900000 ∧ ∀ p L H', Gd L → H p = none → Keep b H H' → BoxAt H' b (n + 12) → H' p = some (.lst (L.map vN)) → Q (.ref p) H'
theorem keep_fresh {b D : Addr} {H H' : Hp} {o : HO} (h : Keep b H H') (n : H D = none) : Keep b H (upd H' D o) := fun a u na e => by
  rw [upd_ne (ne_of_none e n)]
  exact h a u na e
theorem BoxAt.upd {H : Hp} {b D : Addr} {n : Int} {o : HO} (h : BoxAt H b n) (e : D ≠ b) : BoxAt (L2.upd H D o) b n := by
  obtain ⟨x, y, z, a1, a2⟩ := h
  exact ⟨x, y, z, by rw [upd_ne e.symm]; exact a1, a2⟩
theorem part_step {c l p : Nat} (h : c * l ≤ 60) (hp : 2 ≤ p) (hl : p ≤ l) : c * p * (l / p) ≤ 60 ∧ 1 ≤ l / p := by
  have h1 : p * (l / p) ≤ l := Nat.mul_div_le l p
  refine ⟨?_, (Nat.le_div_iff_mul_le (by omega)).mpr (by omega)⟩
  rw [Nat.mul_assoc]
  exact Nat.le_trans (Nat.mul_le_mul_left _ h1) h
section
variable {P : Program} {w : World} {K : PySem.W.Frag} {mg : Str → Option Value} {base : Heap}
theorem ok_pts {f fT : Addr} {fd dT : FuncData} {k : Nat} (F : Fun K "_law_parts" "_law_parts" s__law_parts f fd) (T : Blt mg) (D__law_take : Df K mg "_law_take" s__law_take P__law_take fT dT) : FnOk P w K mg base CX0 (k + 2) f fd P__law_parts spPts := by
  have G__law_take : FnOk P w K mg base CX0 1 fT dT P__law_take spTake := ok_take D__law_take.F
  have nd := sc__law_parts.nd
  refine F.ok sc__law_parts (fun vs H Q E h => ?_) (fun cdv A outer s H vs Q E hr h => ?_)
  · obtain ⟨b, n, rfl, _⟩ := h
    rfl
  · obtain ⟨b, n, rfl, hb, hn, q⟩ := h
    refine ⟨_, (pss_cons (ps_par (i := 1) (j := 2) (by rfl) nd rfl rfl (by decide) rfl rfl (pa_cons (pe_lst pa_nil) (pa_cons (pe_ix (r := rIxL K) ix_list (pe_lst (pa_cons (pe_int) (pa_cons (pe_int) (pa_cons (pe_int) (pa_cons (pe_int) pa_nil))))) (pe_call G__law_take (hr.mono (by omega)) (by rfl) D__law_take.g D__law_take.F.kp D__law_take.b .nil pass0 (pa_cons (pv 0) (pa_cons (pe_int) pa_nil))) (fun _ _ => rfl)) pa_nil)) (by rfl))
      (pss_cons (ps_for PassesOwn.never rfl (pi_range1 (by rfl) T.b_range (pa_cons (pe_call G__law_take (hr.mono (by omega)) (by rfl) D__law_take.g D__law_take.F.kp D__law_take.b .nil pass0 (pa_cons (pv 0) (pa_cons (pe_int) pa_nil))) pa_nil)) (pg_name (i := 3) nd rfl (Or.inl rfl))
      (pss_one (ps_if (pt_cmpR op_gt (pv 2) (pe_int) (nomark _)) (pss_cons (ps_set (i := 4) nd rfl (Or.inl rfl) (pe_op op_add (pe_int) (pe_call G__law_take (hr.mono (by omega)) (by rfl) D__law_take.g D__law_take.F.kp D__law_take.b .nil pass0 (pa_cons (pv 0) (pa_cons (pe_ix (r := rIxL K) ix_list (pe_lst (pa_cons (pe_op op_sub (pv 2) (pe_int)) (pa_cons (pe_callB (call_min2 rfl) (by rfl) T.b_min (by decide +kernel) (pa_cons (pe_op op_sub (pv 2) (pe_int)) (pa_cons (pe_int) pa_nil))) pa_nil))) (pe_call G__law_take (hr.mono (by omega)) (by rfl) D__law_take.g D__law_take.F.kp D__law_take.b .nil pass0 (pa_cons (pv 0) (pa_cons (pe_int) pa_nil))) (fun _ _ => rfl)) pa_nil)))))
      (pss_cons (ps_expr (pe_bm PySem.F.plainAttrs_list PySem.F.slot_list_append PySem.F.type_list_append mt_append (pv 1) (pa_cons (pv 4) pa_nil)))
      (pss_one (ps_set (i := 2) nd rfl (Or.inl rfl) (pe_op op_fdiv (pv 2) (pv 4)))))) pss_nil)))
      (pss_one (ps_ret (pv 1))))), ?_⟩
    walk_at "ev"
    intro p hp
    generalize hG : upd _ p _ = H1
    obtain ⟨sm1, hq1⟩ := newO hG hp
    clear hG
    have npb := hb.ne hp
    have b1 := hb.same sm1
    walk_at "ev"
    intro l hl
    generalize hG : upd _ l _ = H2
    obtain ⟨sm2, hq2⟩ := newO hG hl
    clear hG
    have nlb := b1.ne hl
    have b2 := b1.same sm2
    walk_at "ev"
    intro r H3 r0 r1 k3 b3
    have hl3 := k3 _ _ nlb hq2
    have hLl : SqL K H3 l [.int 60, .int 60, .int 16, .int 30] := SqL.of hl3
    have hv : ∃ left : Nat, atI [V.int 60, .int 60, .int 16, .int 30] r = some (vN left) ∧ 1 ≤ left ∧ left ≤ 60 := by
      have hc : r = 0 ∨ r = 1 ∨ r = 2 ∨ r = 3 := by omega
      rcases hc with h | h | h | h <;> rw [h]
      · exact ⟨60, rfl, by decide, by decide⟩
      · exact ⟨60, rfl, by decide, by decide⟩
      · exact ⟨16, rfl, by decide, by decide⟩
      · exact ⟨30, rfl, by decide, by decide⟩
    obtain ⟨left, hat, lf1, lf6⟩ := hv
    have hp3 := k3 _ _ npb (sm2 _ _ hq1)
    have kk3 : Keep b H H3 := (keepS (sm1.trans sm2)).trans k3
    walk_at "ev"
    intro r2 H4 r20 r21 k4 b4
    walk_at "ev"
    refine for_range (lo := 0) (n := _) (fun i σ H' => Hold (∃ (L : List Nat) (lf : Nat) (s3 s4 : Option V), σ = [some (.ref b), some (.ref p), some (vN lf), s3, s4] ∧ L.length ≤ i ∧ (∀ x ∈ L, 2 ≤ x) ∧ cntN L * lf ≤ 60 ∧ 1 ≤ lf ∧ Keep b H H' ∧ BoxAt H' b (n + 2 + 2 * (i : Int)) ∧ H' p = some (.lst (L.map vN)))) (.mk ⟨[], left, none, none, rfl, Nat.le_refl _, fun x hx => by simp at hx, by show 1 * left ≤ 60; omega, lf1, kk3.trans k4, b4.mono (by omega), k4 _ _ npb hp3⟩) ?_ ?_
    · intro i σ H5 hi hP
      obtain ⟨L, lf, s3, s4, rfl, hLl5, hL2, hc6, hf1, kk5, b5, hp5⟩ := hP.un
      have hi5 : i < 5 := by omega
      have cp := cnt_pos hL2
      have lf60 : lf ≤ 60 := by
        have : 1 * lf ≤ cntN L * lf := Nat.mul_le_mul_right _ cp
        omega
      walk_at "ev"
      refine ite2 (fun e => ?_) (fun e => ?_)
      · have e1 : (1 : Int) < (lf : Int) := of_decide_eq_true e
        walk_at "ev"
        intro l6 hl6
        generalize hG : upd _ l6 _ = H6
        obtain ⟨sm6, hq6⟩ := newO hG hl6
        clear hG
        have n6 := b5.ne hl6
        have b6 := b5.same sm6
        walk_at "ev"
        intro r7 H7 r70 r71 k7 b7
        have hL7 := SqL.of (K := K) (k7 _ _ n6 hq6)
        have hm : ∃ m : Int, atI [V.int ((lf : Int) - 1), V.int (if 3 < (lf : Int) - 1 then 3 else (lf : Int) - 1)] r7 = some (.int m) ∧ 1 ≤ m ∧ m ≤ (lf : Int) - 1 := by
          have hc : r7 = 0 ∨ r7 = 1 := by omega
          rcases hc with h | h <;> rw [h]
          · exact ⟨_, rfl, by omega, by omega⟩
          · exact ⟨_, rfl, by split <;> omega, by split <;> omega⟩
        obtain ⟨m, hatm, m1, m2⟩ := hm
        walk_at "ev"
        intro r8 H8 r80 r81 k8 b8
        have ks : Keep b H5 H8 := (keepS sm6).trans (k7.trans k8)
        have hp8 := ks _ _ npb hp5
        have hpl : (L.map vN).length < sizeLine := szm (by rw [List.length_map]; omega)
        have cd : CDiv (lf : Int) (2 + r8) := ⟨by omega, by omega⟩
        have er : ((r8.toNat + 2 : Nat) : Int) = 2 + r8 := by omega
        obtain ⟨u1, u2⟩ := part_step (p := r8.toNat + 2) hc6 (by omega) (by omega)
        have ed : V.int ((lf : Int) / (2 + r8)) = vN (lf / (r8.toNat + 2)) := by
          show V.int _ = V.int _
          rw [Int.natCast_ediv, er]
        walk_at "ev"
        refine .mk ⟨L ++ [r8.toNat + 2], lf / (r8.toNat + 2), some (.int (0 + (i : Int))), some (.int (2 + r8)), ?_, by rw [List.length_append]; show L.length + 1 ≤ i + 1; omega, fun x hx => ?_, by rw [cnt_append, cnt_cons]; show cntN L * ((r8.toNat + 2) * 1) * _ ≤ 60; rw [Nat.mul_one]; exact u1, u2, keep_fresh (kk5.trans ks) hp, (b8.upd npb).mono (by omega), ?_⟩
        · rw [← ed]
          rfl
        · rcases List.mem_append.mp hx with z | z
          · exact hL2 x z
          · rw [List.mem_singleton.mp z]
            omega
        · rw [upd_same, List.map_append]
          show some (HO.lst (_ ++ [V.int (2 + r8)])) = some (HO.lst (_ ++ [vN (r8.toNat + 2)]))
          rw [show vN (r8.toNat + 2) = V.int (2 + r8) from congrArg V.int er]
      · exact .mk ⟨L, lf, _, _, rfl, by omega, hL2, hc6, hf1, kk5, b5.mono (by omega), hp5⟩
    · intro σ H5 hP
      obtain ⟨L, lf, s3, s4, rfl, hLl5, hL2, hc6, hf1, kk5, b5, hp5⟩ := hP.un
      have cL : cntN L ≤ 60 := by
        have : cntN L * 1 ≤ cntN L * lf := Nat.mul_le_mul_left _ hf1
        omega
      walk_at "ev"
      exact q p L _ ⟨hL2, cL, by omega⟩ hp kk5 (b5.mono (by omega)) hp5
end
theorem mem_le_cnt : ∀ {L : List Nat} {p : Nat}, (∀ q ∈ L, 2 ≤ q) → p ∈ L → p ≤ cntN L
  | [], p, _, h => by simp at h
  | q :: r, p, h, hp => by
    rw [cnt_cons]
    have r1 := cnt_pos fun z hz => h z (List.mem_cons_of_mem _ hz)
    have q2 := h q List.mem_cons_self
    rcases List.mem_cons.mp hp with e | e
    · rw [e]
      have : q * 1 ≤ q * cntN r := Nat.mul_le_mul_left _ r1
      omega
    · have h1 := mem_le_cnt (fun z hz => h z (List.mem_cons_of_mem _ hz)) e
      have : 1 * cntN r ≤ q * cntN r := Nat.mul_le_mul_right _ (by omega)
      omega
abbrev s__law_due : Stmt := top 12
abbrev N__law_due : List Str := ["_law_some", "_law_count", "_law_part", "_law_found", "_law_place", "_law_rest", "_law_digits", "_law_value", "_law_times", "_law_digit"]
abbrev P__law_due : List Str := ["_law_some"]
theorem sc__law_due : FnScope N__law_due P__law_due (defScope s__law_due) := ⟨rfl, rfl, rfl, by decide +kernel, rfl, by decide +kernel, by decide +kernel⟩
def spDue (K : PySem.W.Frag) : Sp := fun vs H Q _ => ∃ (a : Addr) (L : List Nat), vs = [.ref a] ∧ H a = some (.lst (L.map vN)) ∧ Gd L ∧ ∀ p H', H p = none → Same H H' → H' p = some (.lst ((dueN L).map vN)) → Q (.ref p) H'
theorem dig_len : ∀ (L : List Nat) (s : List Nat × Nat), (L.foldl digS s).1.length = s.1.length + L.length
  | [], s => rfl
  | p :: r, s => by
    rw [List.foldl_cons, dig_len r]
    show (s.1 ++ [s.2 % p]).length + r.length = _
    rw [List.length_append, List.length_cons, List.length_cons, List.length_nil]
    omega
theorem dig_small : ∀ (L : List Nat) (s : List Nat × Nat), s.2 ≤ 60 → (∀ x ∈ s.1, x ≤ 60) → (L.foldl digS s).2 ≤ 60 ∧ ∀ x ∈ (L.foldl digS s).1, x ≤ 60
  | [], s, h, h2 => ⟨h, h2⟩
  | p :: r, s, h, h2 => dig_small r (digS s p) (Nat.le_trans (Nat.div_le_self _ _) h) fun x hx => by
      rcases List.mem_append.mp hx with z | z
      · exact h2 x z
      · rw [List.mem_singleton.mp z]
        exact Nat.le_trans (Nat.mod_le _ _) h
theorem fold_take {α β : Type} {f : β → α → β} {L : List α} {i : Nat} {p : α} {s : β} (h : L[i]? = some p) : (L.take (i + 1)).foldl f s = f ((L.take i).foldl f s) p := by
  rw [List.take_add_one, h, List.foldl_append]
  rfl
theorem val_snd : ∀ (zs : List (Nat × Nat)) (s : Nat × Nat), (zs.foldl valS s).2 = s.2 * cntN (zs.map (·.1))
  | [], s => (Nat.mul_one _).symm
  | q :: r, s => by
    rw [List.foldl_cons, val_snd r, List.map_cons, cnt_cons, ← Nat.mul_assoc]
    rfl
section
variable {P : Program} {w : World} {K : PySem.W.Frag} {mg : Str → Option Value} {base : Heap}
theorem ok_due {f : Addr} {fd : FuncData} {k : Nat} (F : Fun K "_law_due" "_law_due" s__law_due f fd) (T : Blt mg) : FnOk P w K mg base CX0 (k + 1) f fd P__law_due (spDue K) := by
  have nd := sc__law_due.nd
  refine F.ok sc__law_due (fun vs H Q E h => ?_) (fun cdv A outer s H vs Q E hr h => ?_)
  · obtain ⟨a, L, rfl, _⟩ := h
    rfl
  · obtain ⟨a, L, rfl, hA, hg, q⟩ := h
    have hL : SqL K H a (L.map vN) := SqL.of hA
    refine ⟨_, (pss_cons (ps_set (i := 1) nd rfl (Or.inl rfl) (pe_int))
      (pss_cons (ps_for PassesOwn.never rfl (pi_list (pv 0)) (pg_name (i := 2) nd rfl (Or.inl rfl))
      (pss_one (ps_set (i := 1) nd rfl (Or.inl rfl) (pe_op op_mul (pv 1) (pv 2)))))
      (pss_cons (ps_set (i := 3) nd rfl (Or.inl rfl) (pe_lst pa_nil))
      (pss_cons (ps_for PassesOwn.never rfl (pi_range1 (by rfl) T.b_range (pa_cons (pv 1) pa_nil)) (pg_name (i := 4) nd rfl (Or.inl rfl))
      (pss_cons (ps_par (i := 5) (j := 6) (by rfl) nd rfl rfl (by decide) rfl rfl (pa_cons (pv 4) (pa_cons (pe_lst pa_nil) pa_nil)) (by rfl))
      (pss_cons (ps_for PassesOwn.never rfl (pi_list (pe_revL (pv 0))) (pg_name (i := 2) nd rfl (Or.inl rfl))
      (pss_cons (ps_expr (pe_bm PySem.F.plainAttrs_list PySem.F.slot_list_append PySem.F.type_list_append mt_append (pv 6) (pa_cons (pe_op op_mod (pv 5) (pv 2)) pa_nil)))
      (pss_one (ps_set (i := 5) nd rfl (Or.inl rfl) (pe_op op_fdiv (pv 5) (pv 2))))))
      (pss_cons (ps_asg (pe_tup (pa_cons (pe_int) (pa_cons (pe_int) pa_nil))) (pg_tup (by rfl) (pgs_cons (pg_name (i := 7) nd rfl (Or.inl rfl)) (pgs_cons (pg_name (i := 8) nd rfl (Or.inl rfl)) pgs_nil))))
      (pss_cons (ps_for PassesOwn.never rfl (pi_zip (by rfl) T.b_zip (pa_cons (pv 0) (pa_cons (pe_revL (pv 6)) pa_nil))) (pg_tup (by rfl) (pgs_cons (pg_name (i := 2) nd rfl (Or.inl rfl)) (pgs_cons (pg_name (i := 9) nd rfl (Or.inl rfl)) pgs_nil)))
      (pss_one (ps_par (i := 7) (j := 8) (by rfl) nd rfl rfl (by decide) rfl rfl (pa_cons (pe_op op_add (pv 7) (pe_op op_mul (pv 9) (pv 8))) (pa_cons (pe_op op_mul (pv 8) (pv 2)) pa_nil)) (by rfl))))
      (pss_one (ps_expr (pe_bm PySem.F.plainAttrs_list PySem.F.slot_list_append PySem.F.type_list_append mt_append (pv 3) (pa_cons (pv 7) pa_nil)))))))))
      (pss_one (ps_ret (pv 3))))))), ?_⟩
    have hL' : ∃ xs, SqL K H a xs := ⟨_, hL⟩
    walk_at "ev"
    refine for_list (K := K) (a := a) (xs := L.map vN) (fun i σ H' => Hold (∃ (s2 : Option V), σ = [some (.ref a), some (vN (cntN (L.take i))), s2, none, none, none, none, none, none, none] ∧ H' = H)) (.mk ⟨none, rfl, rfl⟩) ?_ ?_ ?_
    · intro i σ H1 hi hP
      obtain ⟨s2, rfl, rfl⟩ := hP.un
      exact hL
    · intro i v σ H1 hv hP
      obtain ⟨s2, rfl, rfl⟩ := hP.un
      rw [List.getElem?_map] at hv
      obtain ⟨p, hp, ev⟩ := Option.map_eq_some_iff.mp hv
      subst ev
      have hct := cnt_take hp
      have hc1 := (hg.take i).2.1
      have cm : CMul ((cntN (L.take i) : Nat) : Int) (p : Int) := .inl ⟨by omega, by omega⟩
      walk_at "ev"
      refine .mk ⟨some (vN p), ?_, rfl⟩
      rw [hct]
      show _ = [some (V.ref a), some (V.int ((cntN (L.take i) * p : Nat) : Int)), some (vN p), none, none, none, none, none, none, none]
      rw [Int.natCast_mul]
      rfl
    · intro σ H1 hP
      obtain ⟨s2, rfl, rfl⟩ := hP.un
      rw [List.length_map, List.take_length]
      have hc6 := hg.2.1
      walk_at "ev"
      intro fo hfo
      generalize hG : upd _ fo _ = H2
      obtain ⟨sm2, hq2⟩ := newO hG hfo
      clear hG
      walk_at "ev"
      refine for_range (lo := 0) (n := cntN L) (fun i σ H' => Hold (∃ (s2 s4 s5 s6 s7 s8 s9 : Option V), σ = [some (.ref a), some (vN (cntN L)), s2, some (.ref fo), s4, s5, s6, s7, s8, s9] ∧ Same H1 H' ∧ H' fo = some (.lst (((List.range i).map (dueAt L)).map vN)))) (.mk ⟨_, _, _, _, _, _, _, rfl, sm2, hq2⟩) ?_ ?_
      · intro i σ H3 hi hP3
        obtain ⟨s2, s4, s5, s6, s7, s8, s9, rfl, sm3, hf3⟩ := hP3.un
        walk_at "ev"
        intro d hd
        generalize hG : upd _ d _ = H4
        obtain ⟨sm4, hq4⟩ := newO hG hd
        clear hG
        have hL4 := (sm3.trans sm4).seq hL
        walk_at "ev"
        intro rv hrv
        generalize hG : upd _ rv _ = H5
        obtain ⟨sm5, hq5⟩ := newO hG hrv
        clear hG
        rw [← List.map_reverse] at hq5
        have hL5 : SqL K H5 rv (L.reverse.map vN) := SqL.of hq5
        have hL5' : ∃ xs, SqL K H5 rv xs := ⟨_, hL5⟩
        have nfd : fo ≠ d := ne_of_none hf3 hd
        have nrd : rv ≠ d := (ne_of_none hq4 hrv).symm
        have hd1 : H1 d = none := sm3.free hd
        refine ⟨rv, rfl, hL5', for_list (K := K) (a := rv) (xs := L.reverse.map vN) (fun j σ H' => Hold (∃ (s2 : Option V), σ = [some (.ref a), some (vN (cntN L)), s2, some (.ref fo), some (.int (0 + (i : Int))), some (vN ((L.reverse.take j).foldl digS ([], i)).2), some (.ref d), s7, s8, s9] ∧ Keep d H5 H' ∧ H' d = some (.lst (((L.reverse.take j).foldl digS ([], i)).1.map vN)))) (.mk ⟨s2, ?_, Keep.refl _ _, sm5 _ _ hq4⟩) ?_ ?_ ?_⟩
        · show _ = [some (V.ref a), some (vN (cntN L)), s2, some (V.ref fo), some (V.int (0 + (i : Int))), some (V.int ((i : Nat) : Int)), some (V.ref d), s7, s8, s9]
          rw [Int.zero_add]
          rfl
        · intro j σ H6 hj hP6
          obtain ⟨s2, rfl, k6, hd6⟩ := hP6.un
          exact SqL.of (k6 _ _ nrd hq5)
        · intro j v σ H6 hv hP6
          obtain ⟨s2, rfl, k6, hd6⟩ := hP6.un
          rw [List.getElem?_map] at hv
          obtain ⟨p, hp, ev⟩ := Option.map_eq_some_iff.mp hv
          subst ev
          have p2 := hg.1 p (List.mem_reverse.mp (List.mem_of_getElem? hp))
          have hft := fold_take (f := digS) (s := ([], i)) hp
          obtain ⟨sm, _⟩ := dig_small (L.reverse.take j) ([], i) (by show i ≤ 60; omega) (fun x hx => by simp at hx)
          have hdl := dig_len (L.reverse.take j) ([], i)
          rw [List.length_take] at hdl
          have h5 := hg.2.2
          rw [hft]
          generalize (L.reverse.take j).foldl digS ([], i) = st at *
          obtain ⟨ds, rest⟩ := st
          have sm' : rest ≤ 60 := sm
          have hdl' : ds.length = 0 + min j L.reverse.length := hdl
          have hp60 : p ≤ 60 := by
            have hm := List.mem_reverse.mp (List.mem_of_getElem? hp)
            have := hg.2.1
            have h1 := mem_le_cnt hg.1 hm
            omega
          have hsz : (ds.map vN).length < sizeLine := szm (by rw [List.length_map]; rw [List.length_reverse] at hdl'; omega)
          have cd : CDiv (rest : Int) (p : Int) := ⟨by omega, by omega⟩
          walk_at "ev"
          refine .mk ⟨some (vN p), ?_, keep_upd k6, ?_⟩
          · show _ = [some (V.ref a), some (vN (cntN L)), some (vN p), some (V.ref fo), some (V.int (0 + (i : Int))), some (V.int ((rest / p : Nat) : Int)), some (V.ref d), s7, s8, s9]
            rw [Int.natCast_ediv]
            rfl
          · rw [upd_same]
            show some (HO.lst (ds.map vN ++ [V.int ((rest : Int) % (p : Int))])) = some (HO.lst ((ds ++ [rest % p]).map vN))
            rw [List.map_append]
            show _ = some (HO.lst (ds.map vN ++ [V.int ((rest % p : Nat) : Int)]))
            rw [Int.natCast_emod]
        · intro σ H6 hP6
          obtain ⟨s2, rfl, k6, hd6⟩ := hP6.un
          rw [List.length_map, List.take_length] at hd6
          have hdl := dig_len L.reverse ([], i)
          obtain ⟨_, dsm⟩ := dig_small L.reverse ([], i) (by show i ≤ 60; omega) (fun x hx => by simp at hx)
          have hdd : dueAt L i = ((L.zip (L.reverse.foldl digS ([], i)).1.reverse).foldl valS (0, 1)).1 := rfl
          rw [List.length_map, List.take_length]
          generalize L.reverse.foldl digS ([], i) = st at *
          obtain ⟨ds, rest⟩ := st
          have hdl' : ds.length = L.length := by
            have : ds.length = 0 + L.reverse.length := hdl
            rw [List.length_reverse] at this
            omega
          walk_at "ev"
          intro tp htp
          generalize hG : upd _ tp _ = H7
          obtain ⟨sm7, hq7⟩ := newO hG htp
          clear hG
          have hT7 : SqT K H7 tp [.int 0, .int 1] := SqT.of hq7
          have hL7 : SqL K H7 a (L.map vN) := by
            have hne : a ≠ d := ne_of_none hA hd1
            exact sm7.seq (k6.seq hne (sm5.seq hL4))
          have hd7 : SqL K H7 d (ds.map vN) := SqL.of (sm7 _ _ hd6)
          walk_at "ev"
          intro dv hdv
          generalize hG : upd _ dv _ = H8
          obtain ⟨sm8, hq8⟩ := newO hG hdv
          clear hG
          rw [← List.map_reverse] at hq8
          have hL8 := sm8.seq hL7
          have hV8 : SqL K H8 dv (ds.reverse.map vN) := SqL.of hq8
          have hll : (L.map vN).length = (ds.reverse.map vN).length := by rw [List.length_map, List.length_map, List.length_reverse, hdl']
          have hdsm : ∀ x ∈ ds.reverse, x ≤ 60 := fun x hx => dsm x (List.mem_reverse.mp hx)
          refine ⟨a, dv, _, _, rfl, hL8, hV8, RZ.for_zipL (K := K) (a := a) (b := dv) (xs := L.map vN) (ys := ds.reverse.map vN) hll (fun j σ H' => Hold (∃ (s2 s9 : Option V), σ = [some (.ref a), some (vN (cntN L)), s2, some (.ref fo), some (.int (0 + (i : Int))), some (vN rest), some (.ref d), some (vN (((L.zip ds.reverse).take j).foldl valS (0, 1)).1), some (vN (((L.zip ds.reverse).take j).foldl valS (0, 1)).2), s9] ∧ Same H8 H')) (.mk ⟨s2, s9, rfl, Same.refl _⟩) ?_ ?_ ?_⟩
          · intro j σ H9 hP9
            obtain ⟨s2, s9, rfl, sm9⟩ := hP9.un
            exact ⟨sm9.seq hL8, sm9.seq hV8⟩
          · intro j x y T' σ H9 hx hy hP9 hT'
            obtain ⟨s2, s9, rfl, sm9⟩ := hP9.un
            rw [List.getElem?_map] at hx hy
            obtain ⟨p, hp, ev⟩ := Option.map_eq_some_iff.mp hx
            subst ev
            obtain ⟨dg, hdg, ev⟩ := Option.map_eq_some_iff.mp hy
            subst ev
            have hz : (L.zip ds.reverse)[j]? = some (p, dg) := List.getElem?_zip_eq_some.mpr ⟨hp, hdg⟩
            have hft := fold_take (f := valS) (s := (0, 1)) hz
            have d6 := hdsm dg (List.mem_of_getElem? hdg)
            have p6 : p ≤ 60 := Nat.le_trans (mem_le_cnt hg.1 (List.mem_of_getElem? hp)) hg.2.1
            rw [hft]
            generalize ((L.zip ds.reverse).take j).foldl valS (0, 1) = st at *
            obtain ⟨v, tm⟩ := st
            generalize hG : upd _ T' _ = H10
            obtain ⟨sm10, hq10⟩ := newO hG hT'
            clear hG
            have hTT : SqT K H10 T' [vN p, vN dg] := SqT.of hq10
            have cm1 : CMul (dg : Int) (tm : Int) := .inl ⟨by omega, by omega⟩
            have cm2 : CMul (tm : Int) (p : Int) := .inr ⟨by omega, by omega⟩
            walk_at "ev"
            refine .mk ⟨some (vN p), some (vN dg), ?_, sm9.trans sm10⟩
            show _ = [some (V.ref a), some (vN (cntN L)), some (vN p), some (V.ref fo), some (V.int (0 + (i : Int))), some (vN rest), some (V.ref d), some (V.int ((v + dg * tm : Nat) : Int)), some (V.int ((tm * p : Nat) : Int)), some (vN dg)]
            rw [Int.natCast_add, Int.natCast_mul, Int.natCast_mul]
            rfl
          · intro σ H9 hP9
            obtain ⟨s2, s9, rfl, sm9⟩ := hP9.un
            have hzl : (L.map vN).length = (L.zip ds.reverse).length := by
              rw [List.length_map, List.length_zip, List.length_reverse, hdl', Nat.min_self]
            rw [hzl, List.take_length, ← hdd]
            have hf9 : H9 fo = some (.lst (((List.range i).map (dueAt L)).map vN)) := sm9 _ _ (sm8 _ _ (sm7 _ _ (k6 _ _ nfd (sm5 _ _ (sm4 _ _ hf3)))))
            have hfl : (((List.range i).map (dueAt L)).map vN).length < sizeLine := szm (by rw [List.length_map, List.length_map, List.length_range]; omega)
            walk_at "ev"
            refine .mk ⟨_, _, _, _, _, _, _, rfl, ?_, ?_⟩
            · refine same_mut ?_ hfo
              have s19 : Same H1 H5 := sm3.trans (sm4.trans sm5)
              have k19 : Same H1 H6 := keep_same s19 hd1 k6
              exact k19.trans (sm7.trans (sm8.trans sm9))
            · rw [upd_same, List.range_succ, List.map_append, List.map_append]
              rfl
      · intro σ H3 hP3
        obtain ⟨s2, s4, s5, s6, s7, s8, s9, rfl, sm3, hf3⟩ := hP3.un
        walk_at "ev"
        exact q _ _ hfo sm3 hf3
end
def IsOrd (ns : List Int) : Prop := ns ≠ [] ∧ ns.Nodup ∧ ∀ k, k ∈ ns ↔ 0 ≤ k ∧ k < (ns.length : Int)
theorem rgV_eq (n : Nat) : rgV 0 (n : Int) = ((List.range n).map Int.ofNat).map V.int := by
  unfold rgV
  rw [List.map_map, Int.sub_zero]
  show List.map _ (List.range n) = _
  refine List.map_congr_left fun i _ => ?_
  show V.int (0 + (i : Int)) = V.int (i : Int)
  rw [Int.zero_add]
theorem rng_mem {n : Nat} {k : Int} : k ∈ (List.range n).map Int.ofNat ↔ 0 ≤ k ∧ k < (n : Int) := by
  rw [List.mem_map]
  constructor
  · rintro ⟨j, hj, e⟩
    have := List.mem_range.mp hj
    rw [← e]
    exact ⟨Int.natCast_nonneg j, by show (j : Int) < n; omega⟩
  · rintro ⟨h0, h1⟩
    exact ⟨k.toNat, List.mem_range.mpr (by omega), Int.toNat_of_nonneg h0⟩
theorem rng_srt (n : Nat) : ((List.range n).map Int.ofNat).Pairwise (· < ·) := by
  rw [List.pairwise_map]
  refine List.pairwise_lt_range.imp fun {a b} h => ?_
  show (a : Int) < (b : Int)
  omega
theorem srt_strict : ∀ {l : List Int}, l.Pairwise (· ≤ ·) → l.Nodup → l.Pairwise (· < ·)
  | [], _, _ => .nil
  | a :: r, h, d => by
    rw [List.pairwise_cons] at h ⊢
    rw [List.nodup_cons] at d
    exact ⟨fun b hb => Int.lt_iff_le_and_ne.mpr ⟨h.1 b hb, fun e => d.1 (e ▸ hb)⟩, srt_strict h.2 d.2⟩
theorem IsOrd.sorted {ns ms : List Int} (h : IsOrd ns) (p : ms.Perm ns) (s : ms.Pairwise (· ≤ ·)) : ms = (List.range ns.length).map Int.ofNat :=
  srt_ext (srt_strict s (p.nodup_iff.mpr h.2.1)) (rng_srt _) fun k => (p.mem_iff.trans (h.2.2 k)).trans rng_mem.symm
theorem cmp_get {s t : List Nat} {n i : Nat} (h : cmpN s t = List.range n) (hi : i < n) : ∃ x, s[i]? = some x ∧ t.getD x t.length = i := by
  have e := congrArg (fun l => l[i]?) h
  simp only [cmpN, List.getElem?_map, List.getElem?_range hi] at e
  obtain ⟨x, hx, e2⟩ := Option.map_eq_some_iff.mp e
  exact ⟨x, hx, e2⟩
/-- what is turned is an order -/
theorem tur_ord {L : List Nat} (h : Gd L) : IsOrd ((turN L).map Int.ofNat) ∧ ∀ x ∈ turN L, x < (turN L).length := by
  have hl := tur_len h
  have hlr := tur_len h.rev
  rw [cnt_rev] at hlr
  have f1 := (ord_facts h).2.1
  have f2 := (ord_facts h.rev).2.1
  rw [List.reverse_reverse, cnt_rev] at f2
  have n1 := cnt_pos h.1
  -- the rows of both are the other's
  have inj : ∀ i < cntN L, ∃ x, (turN L)[i]? = some x ∧ x < cntN L ∧ (turN L.reverse)[x]? = some i := fun i hi => by
    obtain ⟨x, hx, e⟩ := cmp_get f2 hi
    have hxl : x < (turN L.reverse).length := by
      apply Nat.lt_of_not_ge
      intro z
      rw [List.getD_eq_getElem?_getD, List.getElem?_eq_none z] at e
      simp at e
      omega
    refine ⟨x, hx, by omega, ?_⟩
    rw [List.getD_eq_getElem?_getD, List.getElem?_eq_getElem hxl] at e
    rw [List.getElem?_eq_getElem hxl]
    simpa using e
  have sur : ∀ k < cntN L, k ∈ turN L := fun k hk => by
    obtain ⟨x, hx, e⟩ := cmp_get f1 hk
    by_cases hxl : x < (turN L).length
    · rw [List.getD_eq_getElem?_getD, List.getElem?_eq_getElem hxl] at e
      have e' : (turN L)[x] = k := by simpa using e
      exact e' ▸ List.getElem_mem hxl
    · rw [List.getD_eq_getElem?_getD, List.getElem?_eq_none (by omega)] at e
      simp at e
      omega
  have lt : ∀ x ∈ turN L, x < cntN L := fun x hx => by
    obtain ⟨i, hi, e⟩ := List.mem_iff_getElem.mp hx
    obtain ⟨y, hy, h2, _⟩ := inj i (by omega)
    rw [List.getElem?_eq_getElem hi] at hy
    have := Option.some.inj hy
    omega
  have nod : (turN L).Nodup := by
    rw [List.nodup_iff_pairwise_ne] at *
    rw [List.pairwise_iff_getElem]
    intro i j hi hj hij e
    obtain ⟨x, hx, _, h1⟩ := inj i (by omega)
    obtain ⟨y, hy, _, h2⟩ := inj j (by omega)
    rw [List.getElem?_eq_getElem hi] at hx
    rw [List.getElem?_eq_getElem hj] at hy
    have ex := Option.some.inj hx
    have ey := Option.some.inj hy
    have exy : x = y := by omega
    rw [exy, h2] at h1
    have := Option.some.inj h1
    omega
  refine ⟨⟨fun z => ?_, ?_, fun k => ?_⟩, fun x hx => by rw [hl]; exact lt x hx⟩
  · have := congrArg List.length z
    rw [List.length_map, hl] at this
    simp at this
    omega
  · rw [List.Nodup, List.pairwise_map]
    exact nod.imp fun {a b} hne e => hne (Int.ofNat.inj e)
  · rw [List.length_map, hl, List.mem_map]
    constructor
    · rintro ⟨j, hj, e⟩
      rw [← e]
      exact ⟨Int.natCast_nonneg j, by show (j : Int) < _; have := lt j hj; omega⟩
    · rintro ⟨k0, k1⟩
      exact ⟨k.toNat, sur _ (by omega), Int.toNat_of_nonneg k0⟩
abbrev s_is_order : Stmt := top 3
abbrev N_is_order : List Str := ["thing", "part"]
abbrev P_is_order : List Str := ["thing"]
theorem sc_is_order : FnScope N_is_order P_is_order (defScope s_is_order) := ⟨rfl, rfl, rfl, by decide +kernel, rfl, by decide +kernel, by decide +kernel⟩
def spIsOrd (K : PySem.W.Frag) : Sp := fun vs H Q _ => ∃ (a : Addr) (ns : List Int), vs = [.ref a] ∧ SqL K H a (ns.map V.int) ∧ IsOrd ns ∧ ns.length ≤ 1000 ∧ ∀ H', Same H H' → Q (.bl true) H'
abbrev s_inverse_order : Stmt := top 4
abbrev N_inverse_order : List Str := ["order", "told", "at", "place"]
abbrev P_inverse_order : List Str := ["order"]
theorem sc_inverse_order : FnScope N_inverse_order P_inverse_order (defScope s_inverse_order) := ⟨rfl, rfl, rfl, by decide +kernel, rfl, by decide +kernel, by decide +kernel⟩
def spInvO (K : PySem.W.Frag) : Sp := fun vs H Q _ => ∃ (a : Addr) (t : List Nat), vs = [.ref a] ∧ SqL K H a (t.map vN) ∧ (∀ x ∈ t, x < t.length) ∧ t.length ≤ 1000 ∧ ∀ p H', H p = none → Same H H' → H' p = some (.lst ((invN t).map vN)) → Q (.ref p) H'
theorem inv_len : ∀ (zs : List (Nat × Nat)) (acc : List Nat), (zs.foldl invS acc).length = acc.length
  | [], acc => rfl
  | q :: r, acc => by
    rw [List.foldl_cons, inv_len r]
    exact List.length_set
section
variable {P : Program} {w : World} {K : PySem.W.Frag} {mg : Str → Option Value} {base : Heap}
theorem ok_isord {f f1 : Addr} {fd d1 : FuncData} {k : Nat} (F : Fun K "is_order" "is_order" s_is_order f fd) (T : Blt mg) (D_is_whole : Df K mg "is_whole" s_is_whole P_is_whole f1 d1) : FnOk P w K mg base CX0 (k + 2) f fd P_is_order (spIsOrd K) := by
  have G_is_whole : FnOk P w K mg base CX0 (k + 1) f1 d1 P_is_whole (spWhole K) := ok_whole D_is_whole.F T
  have nd := sc_is_order.nd
  refine F.ok sc_is_order (fun vs H Q E h => ?_) (fun cdv A outer s H vs Q E hr h => ?_)
  · obtain ⟨a, ns, rfl, _⟩ := h
    rfl
  · obtain ⟨a, ns, rfl, hL, ho, hl, q⟩ := h
    refine ⟨_, (pss_cons (ps_if (PW.pt (pw_or (pt_not (pt_val (pe_callB (r := rIsi K) call_isi (by rfl) T.b_isinstance (by decide +kernel) (pa_cons (pv 0) (pa_cons (pe_bltn (v := .ty "list") (by rfl) T.b_list (by decide +kernel) rfl) pa_nil))))) (pw_or (pt_not (pt_truth (pv 0) (by intro _; rfl))) (pw_or1 (pt_not (pt_val (pe_callB (r := rAll K) (cr_all rfl) (by rfl) T.b_all (by decide +kernel) (pa_cons (pe_lc (own := [("part", 1)]) (g := gName 1) (by rfl) nd (pi_list (pv 0)) (blkOk_by (own := [("part", 1)]) (N := N_is_order) (sc := defScope s_is_order) (by decide +kernel)) (fun _ _ _ _ _ => (pg_name (i := 1) nd rfl (Or.inl rfl))) (fun _ _ _ _ _ => pts_nil) (fun _ _ _ _ _ => (pe_call G_is_whole (hr.mono (by omega)) (by rfl) D_is_whole.g D_is_whole.F.kp D_is_whole.b .nil pass0 (pa_cons (pv 1) pa_nil)))) pa_nil)))))))) (pss_one (ps_ret (pe_bl))) pss_nil)
      (pss_one (ps_ret (pe_cmpR (r := rEqD K) (op_eqD hr.units) (pe_callB (r := rSortedI K) cr_sortedI (by rfl) T.b_sorted (by decide +kernel) (pa_cons (pv 0) pa_nil)) (pe_listRg (by rfl) (by rfl) T.b_list (prg_1 (by rfl) T.b_range (pe_callB (r := rLenQ K) call_len_seq (by rfl) T.b_len (by decide +kernel) (pa_cons (pv 0) pa_nil)))) (nomark _))))), ?_⟩
    have kd : Kd K H (.ref a) "list" := .lst hL
    have ty := kd.ty
    obtain ⟨k1, k2, k3, k4, k5⟩ := kd.kit
    have htru : TruV K (.ref a) H (!(ns.map V.int).isEmpty) := .inl ⟨_, hL, rfl⟩
    have hne : (!(ns.map V.int).isEmpty) = true := by
      cases ns with
      | nil => exact absurd rfl ho.1
      | cons x r => rfl
    rw [hne] at htru
    have hL' : ∃ xs, SqL K H a xs := ⟨_, hL⟩
    walk_at "ev"
    intro D hD
    refine lc_list (K := K) (a := a) (xs := ns.map V.int) (fun i H' => Hold (Same H H' ∧ H' D = some (.lst ((List.replicate i true).map V.bl)))) (.mk ⟨same_new hD, upd_same⟩) ?_ ?_ ?_
    · intro i H1 hi hP
      obtain ⟨sm1, hD1⟩ := hP.un
      exact sm1.seq hL
    · intro i v H1 hv hP
      obtain ⟨sm1, hD1⟩ := hP.un
      rw [List.getElem?_map] at hv
      obtain ⟨x, hx, ev⟩ := Option.map_eq_some_iff.mp hv
      subst ev
      have hil : i < ns.length := (List.getElem?_eq_some_iff.mp hx).1
      have kdx : Kd K H1 (.int x) "int" := .int x
      have hsz : ((List.replicate i true).map V.bl).length < sizeLine := szm (by rw [List.length_map, List.length_replicate]; omega)
      walk_at "ev"
      refine .mk ⟨same_mut sm1 hD, ?_⟩
      rw [upd_same, List.replicate_succ', List.map_append]
      rfl
    · intro H1 hP
      obtain ⟨sm1, hD1⟩ := hP.un
      have hLD : SqL K H1 D ((List.replicate (ns.map V.int).length true).map V.bl) := SqL.of hD1
      have hL1 := sm1.seq hL
      have hat := all_true (ns.map V.int).length
      refine ⟨D, _, rfl, hLD, ?_⟩
      rw [hat]
      walk_at "ev"
      intro ms p pm ps hp
      generalize hG : upd _ p _ = H2
      obtain ⟨sm2, hq2⟩ := newO hG hp
      clear hG
      have hL2 := sm2.seq hL1
      have rg : RgOk 0 ((ns.map V.int).length : Int) := RgOk.of_le (by decide) (by rw [List.length_map]; omega) (by decide) (by omega)
      walk_at "ev"
      intro p3 hp3
      generalize hG : upd _ p3 _ = H3
      obtain ⟨sm3, hq3⟩ := newO hG hp3
      clear hG
      rw [List.length_map, rgV_eq] at hq3
      refine eqd_ints (SqL.of (sm3 _ _ hq2)) (SqL.of hq3) ?_
      rw [decide_eq_true (ho.sorted pm ps)]
      exact q _ (sm1.trans (sm2.trans sm3))
theorem ok_invo {f : Addr} {fd : FuncData} {k : Nat} (F : Fun K "inverse_order" "inverse_order" s_inverse_order f fd) (T : Blt mg) : FnOk P w K mg base CX0 (k + 1) f fd P_inverse_order (spInvO K) := by
  have nd := sc_inverse_order.nd
  refine F.ok sc_inverse_order (fun vs H Q E h => ?_) (fun cdv A outer s H vs Q E hr h => ?_)
  · obtain ⟨a, t, rfl, _⟩ := h
    rfl
  · obtain ⟨a, t, rfl, hL, hlt, hl, q⟩ := h
    refine ⟨_, (pss_cons (ps_set (i := 1) nd rfl (Or.inl rfl) (pe_op op_rep (pe_lst (pa_cons (pe_int) pa_nil)) (pe_callB (r := rLenQ K) call_len_seq (by rfl) T.b_len (by decide +kernel) (pa_cons (pv 0) pa_nil))))
      (pss_cons (ps_for PassesOwn.never rfl (pi_enum (by rfl) T.b_enumerate (pa_cons (pv 0) pa_nil)) (pg_tup (by rfl) (pgs_cons (pg_name (i := 2) nd rfl (Or.inl rfl)) (pgs_cons (pg_name (i := 3) nd rfl (Or.inl rfl)) pgs_nil)))
      (pss_one (ps_asg (pv 2) (pg_sub (pv 1) (pv 3) set_list))))
      (pss_one (ps_ret (pv 1))))), ?_⟩
    walk_at "ev"
    intro l1 hl1
    generalize hG : upd _ l1 _ = H1
    obtain ⟨sm1, hq1⟩ := newO hG hl1
    clear hG
    have hL1 := sm1.seq hL
    have hk : (([V.int 0] : List V).length * ((t.map vN).length : Int).toNat) ≤ sizeLine := szl (by rw [List.length_map]; show 1 * t.length ≤ 60000; omega)
    walk_at "ev"
    intro l2 hl2
    generalize hG : upd _ l2 _ = H2
    obtain ⟨sm2, hq2⟩ := newO hG hl2
    clear hG
    have er : (List.replicate ((t.map vN).length : Int).toNat [V.int 0]).flatten = (List.replicate t.length 0).map vN := by
      rw [List.length_map]
      show (List.replicate t.length [V.int 0]).flatten = _
      rw [List.map_replicate]
      exact List.flatten_replicate_singleton
    rw [er] at hq2
    have hL2 := sm2.seq hL1
    have hl20 : H l2 = none := sm1.free hl2
    refine ⟨_, rfl, a, _, rfl, hL2, for_enumL (K := K) (a := a) (xs := t.map vN) (fun i σ H' => Hold (∃ (s2 s3 : Option V), σ = [some (.ref a), some (.ref l2), s2, s3] ∧ Same H H' ∧ H' l2 = some (.lst (((t.zipIdx.take i).foldl invS (List.replicate t.length 0)).map vN)))) (.mk ⟨none, none, rfl, sm1.trans sm2, hq2⟩) ?_ ?_ ?_⟩
    · intro i σ H3 hP
      obtain ⟨s2, s3, rfl, sm3, h3⟩ := hP.un
      exact sm3.seq hL
    · intro i v T' σ H3 hv hP hT
      obtain ⟨s2, s3, rfl, sm3, h3⟩ := hP.un
      rw [List.getElem?_map] at hv
      obtain ⟨x, hx, ev⟩ := Option.map_eq_some_iff.mp hv
      subst ev
      have hxl := hlt x (List.mem_of_getElem? hx)
      have hz : t.zipIdx[i]? = some (x, i) := by
        rw [List.getElem?_zipIdx, hx]
        simp
      have hft : (t.zipIdx.take (i + 1)).foldl invS (List.replicate t.length 0) = invS ((t.zipIdx.take i).foldl invS (List.replicate t.length 0)) (x, i) := fold_take hz
      have hil := inv_len (t.zipIdx.take i) (List.replicate t.length 0)
      rw [List.length_replicate] at hil
      rw [hft]
      generalize (t.zipIdx.take i).foldl invS (List.replicate t.length 0) = acc at *
      generalize hG : upd _ T' _ = H4
      obtain ⟨sm4, hq4⟩ := newO hG hT
      clear hG
      have hT4 : SqT K H4 T' [.int (i : Nat), vN x] := SqT.of hq4
      have h4 := sm4 _ _ h3
      have hix : ixN (acc.map vN).length (x : Int) = some x := ixn_of (by rw [List.length_map, hil]; exact hxl) rfl
      walk_at "ev"
      refine .mk ⟨_, _, rfl, same_mut (sm3.trans sm4) hl20, ?_⟩
      rw [upd_same]
      show _ = some (HO.lst ((acc.set x i).map vN))
      rw [List.map_set]
    · intro σ H3 hP
      obtain ⟨s2, s3, rfl, sm3, h3⟩ := hP.un
      have hzl : (t.map vN).length = t.zipIdx.length := by rw [List.length_map, List.length_zipIdx]
      rw [hzl, List.take_length] at h3
      walk_at "ev"
      exact q _ _ hl20 sm3 h3
end
theorem vNi (L : List Nat) : L.map vN = (L.map Int.ofNat).map V.int := by
  rw [List.map_map]
  rfl
theorem dpN {K : PySem.W.Frag} {H : Hp} {a : Addr} {L : List Nat} (h : SqL K H a (L.map vN)) : Dp K H (.ref a) (.list ((L.map Int.ofNat).map PyData.int)) := by
  rw [vNi] at h
  exact .lst h (dp_ints _)
theorem fitN {L : List Nat} (h : L.length ≤ 4000) : Fit 1 (.list ((L.map Int.ofNat).map PyData.int)) := by
  refine ⟨by rw [List.length_map, List.length_map]; exact h, fun e he => ?_⟩
  obtain ⟨c, _, rfl⟩ := List.mem_map.mp he
  exact True.intro
theorem fit2 {d : PyData} {n : Nat} (h : Fit n d) (ds : List PyData) (hl : ds.length ≤ 4000) (hd : ∀ e ∈ ds, e = d) : Fit (n + 1) (.list ds) := ⟨hl, fun e he => by rw [hd e he]; exact h⟩
theorem fit_mono : ∀ {n : Nat} {d : PyData}, Fit n d → Fit (n + 1) d
  | 0, .list _, h => h.elim
  | 0, .tuple _, h => h.elim
  | n + 1, .list ds, h => ⟨h.1, fun e he => fit_mono (h.2 e he)⟩
  | n + 1, .tuple ds, h => ⟨h.1, fun e he => fit_mono (h.2 e he)⟩
  | 0, .dict _, h => h.elim
  | _ + 1, .dict _, h => h.elim
  | 0, .none, _ => True.intro
  | _ + 1, .none, _ => True.intro
  | 0, .bool _, _ => True.intro
  | _ + 1, .bool _, _ => True.intro
  | 0, .int _, _ => True.intro
  | _ + 1, .int _, _ => True.intro
  | 0, .str _, _ => True.intro
  | _ + 1, .str _, _ => True.intro
abbrev s__law_right : Stmt := top 13
abbrev N__law_right : List Str := ["_law_box_here", "_law_some", "_law_due_here", "_law_stays", "_law_told", "_law_first", "_law_behind", "_law_longer", "_law_digit", "_law_alike", "_law_there", "_law_place", "_law_one"]
abbrev P__law_right : List Str := ["_law_box_here"]
theorem sc__law_right : FnScope N__law_right P__law_right (defScope s__law_right) := ⟨rfl, rfl, rfl, by decide +kernel, rfl, by decide +kernel, by decide +kernel⟩
def spRt : Sp := fun vs H Q _ => ∃ (b : Addr) (n : Int), vs = [.ref b] ∧ BoxAt H b n ∧ n < 900000 ∧ ∀ H', Keep b H H' → BoxAt H' b (n + 12) → Q (.bl true) H'
section
variable {P : Program} {w : World} {K : PySem.W.Frag} {mg : Str → Option Value} {base : Heap}
theorem right_T {f fU : Addr} {dU : FuncData} {cdv : Value} {A : Around} {outer : List Env} {s : Shared} {H : Hp} {Q : VK} {E : XK} {k : Nat} (T : Blt mg) (hr : Room (k + 4) (A.deeper (PyProof.Rows.envOfC "_law_right" (defScope s__law_right) s.heap.objs.size f cdv))) (D_turned_order : Df K mg "turned_order" s_turned_order P_turned_order fU dU) :
    ∃ tl, PSs (cxOf CX0 P w K mg base N__law_right "_law_right" (defScope s__law_right) f cdv A outer s H E).nox ((defBody s__law_right).drop 10) tl ∧ ∀ (al : Addr) (M : List Nat) (H3 : Hp) (x0 x1 x2 x3 x4 x5 x6 x7 x8 : Option V), H3 al = some (.lst (M.map vN)) → Gd M → M.reverse = M → (∀ H', Same H3 H' → Q (.bl true) H') → tl { nx := fun _ H' => Q .non H', rt := Q } [x0, x1, x2, x3, x4, x5, x6, x7, x8, some (.ref al), none, none, none] H3 := by
  have G_turned_order : FnOk P w K mg base CX0 1 fU dU P_turned_order (spTur K) := ok_tur D_turned_order.F T
  have nd := sc__law_right.nd
  refine ⟨_, (pss_cons (ps_set (i := 10) nd rfl (Or.inr rfl) (pe_call G_turned_order (hr.mono (by omega)) (by rfl) D_turned_order.g D_turned_order.F.kp D_turned_order.b .nil pass0 (pa_cons (pv 9) pa_nil)))
      (pss_one (ps_ret (pe_cmpR (r := rEqD K) (op_eqD hr.units) (pe_lc (own := [("_law_place", 11)]) (g := gName 11) (by rfl) nd (pi_range1 (by rfl) T.b_range (pa_cons (pe_callB (r := rLenQ K) call_len_seq (by rfl) T.b_len (by decide +kernel) (pa_cons (pv 10) pa_nil)) pa_nil)) (blkOk_by (own := [("_law_place", 11)]) (N := N__law_right) (sc := defScope s__law_right) (by decide +kernel)) (fun _ _ _ _ _ => (pg_name (i := 11) nd rfl (Or.inl rfl))) (fun _ _ _ _ _ => pts_nil) (fun _ _ _ _ _ => (pe_ix (r := rIxL K) ix_list (pv 10) (pe_ix (r := rIxL K) ix_list (pv 10) (pv 11) (fun _ _ => rfl)) (fun _ _ => rfl)))) (pe_listRg (by rfl) (by rfl) T.b_list (prg_1 (by rfl) T.b_range (pe_callB (r := rLenQ K) call_len_seq (by rfl) T.b_len (by decide +kernel) (pa_cons (pv 10) pa_nil)))) (nomark _))))), ?_⟩
  intro al M H3 x0 x1 x2 x3 x4 x5 x6 x7 x8 hal hg hM q
  have hL3 : SqL K H3 al (M.map vN) := SqL.of hal
  walk_at "ev"
  intro th H4 hth sm4 hq4
  have hl := tur_len hg
  have hc6 := hg.2.1
  have f1 := (ord_facts hg).2.1
  rw [hM] at f1
  have hLt : SqL K H4 th ((turN M).map vN) := SqL.of hq4
  generalize turN M = t at *
  walk_at "ev"
  intro D hD
  have en : ((t.map vN).length : Int).toNat = t.length := by rw [List.length_map]; rfl
  refine lc_range (lo := 0) (n := ((t.map vN).length : Int).toNat) (fun i H' => Hold (Same H4 H' ∧ H' D = some (.lst ((List.range i).map vN)))) (.mk ⟨same_new hD, upd_same⟩) ?_ ?_
  · intro i H5 hi hP
    obtain ⟨sm5, hD5⟩ := hP.un
    have hLt5 := sm5.seq hLt
    rw [en] at hi
    obtain ⟨x, hx, e⟩ := cmp_get f1 (show i < cntN M by omega)
    have hxl : x < t.length := by
      apply Nat.lt_of_not_ge
      intro z
      rw [List.getD_eq_getElem?_getD, List.getElem?_eq_none z] at e
      simp at e
      omega
    rw [List.getD_eq_getElem?_getD, List.getElem?_eq_getElem hxl] at e
    have e' : t[x]? = some i := by
      rw [List.getElem?_eq_getElem hxl]
      simpa using e
    have at1 : atI (t.map vN) (0 + (i : Int)) = some (.int (x : Int)) := at_of (j := i) (by omega) (by rw [List.getElem?_map, hx]; rfl)
    have at2 : atI (t.map vN) (x : Int) = some (.int (i : Int)) := at_of (j := x) (by omega) (by rw [List.getElem?_map, e']; rfl)
    have hsz : ((List.range i).map vN).length < sizeLine := szm (by rw [List.length_map, List.length_range]; omega)
    walk_at "ev"
    refine .mk ⟨same_mut sm5 hD, ?_⟩
    rw [upd_same, List.range_succ, List.map_append]
    rfl
  · intro H5 hP
    obtain ⟨sm5, hD5⟩ := hP.un
    have hLt5 := sm5.seq hLt
    have rg : RgOk 0 ((t.map vN).length : Int) := RgOk.of_le (by decide) (by rw [List.length_map]; omega) (by decide) (by omega)
    walk_at "ev"
    intro p hp
    generalize hG : upd _ p _ = H6
    obtain ⟨sm6, hq6⟩ := newO hG hp
    clear hG
    rw [List.length_map, rgV_eq] at hq6
    rw [en, vNi] at hD5
    refine eqd_ints (SqL.of (sm6 _ _ hD5)) (SqL.of hq6) ?_
    rw [decide_eq_true rfl]
    exact q _ (sm4.trans (sm5.trans sm6))
theorem right_A {f fU : Addr} {dU : FuncData} {cdv : Value} {A : Around} {outer : List Env} {s : Shared} {H : Hp} {Q : VK} {E : XK} {k : Nat} (T : Blt mg) (hr : Room (k + 4) (A.deeper (PyProof.Rows.envOfC "_law_right" (defScope s__law_right) s.heap.objs.size f cdv))) (D_turned_order : Df K mg "turned_order" s_turned_order P_turned_order fU dU) :
    ∃ tl, PSs (cxOf CX0 P w K mg base N__law_right "_law_right" (defScope s__law_right) f cdv A outer s H E).nox ((defBody s__law_right).drop 9) tl ∧ ∀ (sp : Addr) (L : List Nat) (H3 : Hp) (x0 x2 x3 x4 x5 x6 x7 x8 : Option V), H3 sp = some (.lst (L.map vN)) → Gd L → (∀ H', Same H3 H' → Q (.bl true) H') → tl { nx := fun _ H' => Q .non H', rt := Q } [x0, some (.ref sp), x2, x3, x4, x5, x6, x7, x8, none, none, none, none] H3 := by
  obtain ⟨tl, htl, fin⟩ := right_T (P := P) (w := w) (base := base) (outer := outer) (H := H) (Q := Q) (E := E) T hr D_turned_order
  have nd := sc__law_right.nd
  refine ⟨_, (pss_cons (ps_set (i := 9) nd rfl (Or.inl rfl) (pe_ifExp (PW.pt (pw_and (pt_cmpR (r := rNeD K) (op_neD hr.units) (pv 1) (pe_lst pa_nil) (nomark _)) (pw_and1 (pt_cmpR op_lt (pe_ix (r := rIxL K) ix_list (pv 1) (pe_int) (fun _ _ => rfl)) (pe_int) (nomark _))))) (pe_op op_rep (pe_lst (pa_cons (pe_ix (r := rIxL K) ix_list (pv 1) (pe_int) (fun _ _ => rfl)) pa_nil)) (pe_int)) (pe_lst (pa_cons (pe_int) (pa_cons (pe_int) (pa_cons (pe_int) pa_nil))))))
      htl), ?_⟩
  intro sp L H3 x0 x2 x3 x4 x5 x6 x7 x8 hsp hg q
  have hLs : SqL K H3 sp (L.map vN) := SqL.of hsp
  walk_at "ev"
  intro e1 he1
  generalize hG : upd _ e1 _ = H4
  obtain ⟨sm4, hq4⟩ := newO hG he1
  clear hG
  have hLs4 := sm4.seq hLs
  have hLi := hLs4
  rw [vNi] at hLi
  refine ned_ints (ns := L.map Int.ofNat) (ms := []) hLi (SqL.of hq4) ?_
  clear hLi
  have g222 : Gd [2, 2, 2] := ⟨by decide, by decide, by decide⟩
  cases L with
  | nil =>
    rw [show (!decide (([] : List Nat).map Int.ofNat = [])) = false by rfl]
    walk_at "ev"
    intro l5 hl5
    generalize hG : upd _ l5 _ = H5
    obtain ⟨sm5, hq5⟩ := newO hG hl5
    clear hG
    exact fin l5 [2, 2, 2] H5 _ _ _ _ _ _ _ _ _ hq5 g222 rfl fun H' sm => q _ (sm4.trans (sm5.trans sm))
  | cons x r =>
    rw [show (!decide ((x :: r).map Int.ofNat = [])) = true by simp]
    obtain ⟨x2', x6', _, _⟩ := hg.tail
    have hat : atI ((x :: r).map vN) 0 = some (.int (x : Int)) := at_of (j := 0) rfl rfl
    walk_at "ev"
    by_cases c : (x : Int) < 8
    · rw [decide_eq_true c]
      walk_at "ev"
      intro l5 hl5
      generalize hG : upd _ l5 _ = H5
      obtain ⟨sm5, hq5⟩ := newO hG hl5
      clear hG
      have hk : (([V.int (x : Int)] : List V).length * (2 : Int).toNat) ≤ sizeLine := szl (by show 1 * 2 ≤ 60000; decide)
      walk_at "ev"
      intro l6 hl6
      generalize hG : upd _ l6 _ = H6
      obtain ⟨sm6, hq6⟩ := newO hG hl6
      clear hG
      have hcx : x * x ≤ 60 := by
        have h1 : x * x ≤ 7 * 7 := Nat.mul_le_mul (by omega) (by omega)
        omega
      exact fin l6 [x, x] H6 _ _ _ _ _ _ _ _ _ hq6 ⟨fun p hp => by simp at hp; omega, by rw [cnt_cons, cnt_cons]; show x * (x * 1) ≤ 60; rw [Nat.mul_one]; exact hcx, by show 2 ≤ 5; decide⟩ rfl fun H' sm => q _ (sm4.trans (sm5.trans (sm6.trans sm)))
    · rw [decide_eq_false c]
      walk_at "ev"
      intro l5 hl5
      generalize hG : upd _ l5 _ = H5
      obtain ⟨sm5, hq5⟩ := newO hG hl5
      clear hG
      exact fin l5 [2, 2, 2] H5 _ _ _ _ _ _ _ _ _ hq5 g222 rfl fun H' sm => q _ (sm4.trans (sm5.trans sm))
theorem right_B {f fU : Addr} {dU : FuncData} {cdv : Value} {A : Around} {outer : List Env} {s : Shared} {H : Hp} {Q : VK} {E : XK} {k : Nat} (T : Blt mg) (hr : Room (k + 4) (A.deeper (PyProof.Rows.envOfC "_law_right" (defScope s__law_right) s.heap.objs.size f cdv))) (D_turned_order : Df K mg "turned_order" s_turned_order P_turned_order fU dU) :
    ∃ tl, PSs (cxOf CX0 P w K mg base N__law_right "_law_right" (defScope s__law_right) f cdv A outer s H E).nox ((defBody s__law_right).drop 8) tl ∧ ∀ (sp dp : Addr) (L : List Nat) (H3 : Hp) (x0 x3 x4 : Option V), H3 sp = some (.lst (L.map vN)) → H3 dp = some (.lst ((turN L).map vN)) → Gd L → (∀ H', Same H3 H' → Q (.bl true) H') → tl { nx := fun _ H' => Q .non H', rt := Q } [x0, some (.ref sp), some (.ref dp), x3, x4, none, none, none, none, none, none, none, none] H3 := by
  obtain ⟨tl, htl, fin⟩ := right_A (P := P) (w := w) (base := base) (outer := outer) (H := H) (Q := Q) (E := E) T hr D_turned_order
  have G_turned_order : FnOk P w K mg base CX0 1 fU dU P_turned_order (spTur K) := ok_tur D_turned_order.F T
  have nd := sc__law_right.nd
  refine ⟨_, (pss_cons (ps_if (pt_cmpR (r := rNeD K) (op_neD hr.units) (pv 1) (pe_lst pa_nil) (nomark _)) (pss_cons (ps_asg (pe_tup (pa_cons (pe_ix (r := rIxL K) ix_list (pv 1) (pe_int) (fun _ _ => rfl)) (pa_cons (pe_call G_turned_order (hr.mono (by omega)) (by rfl) D_turned_order.g D_turned_order.F.kp D_turned_order.b .nil pass0 (pa_cons (pe_slice (r := rSlL K) sl_list (pv 1) (po_some (pe_int)) po_none) pa_nil)) pa_nil))) (pg_tup (by rfl) (pgs_cons (pg_name (i := 5) nd rfl (Or.inr rfl)) (pgs_cons (pg_name (i := 6) nd rfl (Or.inl rfl)) pgs_nil))))
      (pss_cons (ps_set (i := 7) nd rfl (Or.inl rfl) (pe_lst pa_nil))
      (pss_cons (ps_for PassesOwn.never rfl (pi_range1 (by rfl) T.b_range (pa_cons (pv 5) pa_nil)) (pg_name (i := 8) nd rfl (Or.inr rfl))
      (pss_one (ps_set (i := 7) nd rfl (Or.inl rfl) (pe_op op_cat (pv 7) (pe_lc (own := [("_law_one", 12)]) (g := gName 12) (by rfl) nd (pi_list (pv 6)) (blkOk_by (own := [("_law_one", 12)]) (N := N__law_right) (sc := defScope s__law_right) (by decide +kernel)) (fun _ _ _ _ _ => (pg_name (i := 12) nd rfl (Or.inl rfl))) (fun _ _ _ _ _ => pts_nil) (fun _ _ _ _ _ => (pe_op op_add (pv 8) (pe_op op_mul (pv 5) (pv 12)))))))))
      (pss_one (ps_if (pt_cmpR (r := rNeD K) (op_neD hr.units) (pv 2) (pv 7) (nomark _)) (pss_one (ps_ret (pe_bl))) pss_nil))))) pss_nil)
      htl), ?_⟩
  intro sp dp L H3 x0 x3 x4 hsp hdp hg q
  have hLs : SqL K H3 sp (L.map vN) := SqL.of hsp
  walk_at "ev"
  intro e1 he1
  generalize hG : upd _ e1 _ = H4
  obtain ⟨sm4, hq4⟩ := newO hG he1
  clear hG
  have hLs4 := sm4.seq hLs
  have hLi := hLs4
  rw [vNi] at hLi
  refine ned_ints (ns := L.map Int.ofNat) (ms := []) hLi (SqL.of hq4) ?_
  clear hLi
  cases L with
  | nil =>
    rw [show (!decide (([] : List Nat).map Int.ofNat = [])) = false by rfl]
    walk_at "ev"
    exact fin sp [] H4 _ _ _ _ _ _ _ _ (sm4 _ _ hsp) hg fun H' sm => q _ (sm4.trans sm)
  | cons x r =>
    rw [show (!decide ((x :: r).map Int.ofNat = [])) = true by simp]
    obtain ⟨x2', x6', _, hgr⟩ := hg.tail
    have hat : atI ((x :: r).map vN) 0 = some (.int (x : Int)) := at_of (j := 0) rfl rfl
    have hlon := (ord_facts hg).2.2.2.2 x r rfl
    have hlr := tur_len hgr
    have hcc := hg.2.1
    rw [cnt_cons] at hcc
    have e2 : cutV ((x :: r).map vN) (some 1) none = r.map vN := by
      have : cutV ((x :: r).map vN) (some 1) none = (((x :: r).map vN).drop (min 1 ((x :: r).map vN).length)).take (((x :: r).map vN).length - min 1 ((x :: r).map vN).length) := rfl
      rw [this]
      simp
      exact List.take_of_length_le (by rw [List.length_map]; exact Nat.le_refl _)
    walk_at "ev"
    intro l5 hl5
    generalize hG : upd _ l5 _ = H5
    obtain ⟨sm5, hq5⟩ := newO hG hl5
    clear hG
    rw [e2] at hq5
    have hL5 : SqL K H5 l5 (r.map vN) := SqL.of hq5
    walk_at "ev"
    intro bh H6a hbh sm6a hq6a
    walk_at "ev"
    intro tz htz
    generalize hG : upd _ tz _ = H6
    obtain ⟨sm6b, hqz⟩ := newO hG htz
    clear hG
    have hTz : SqT K H6 tz [.int (x : Int), .ref bh] := SqT.of hqz
    have sm6 := sm6a.trans sm6b
    have hq6 := sm6b _ _ hq6a
    walk_at "ev"
    intro lo0 hlo0
    generalize hG : upd _ lo0 _ = H7
    obtain ⟨sm7, hq7⟩ := newO hG hlo0
    clear hG
    have hLb : SqL K H7 bh ((turN r).map vN) := SqL.of (sm7 _ _ hq6)
    have sm37 := sm4.trans (sm5.trans (sm6.trans sm7))
    have hdp7 := sm37 _ _ hdp
    have hsp7 := sm37 _ _ hsp
    rw [hlon] at hdp7
    have hll : ∀ i, ((List.range i).flatMap fun d => (turN r).map fun o => d + x * o).length = i * cntN r := fun i => by
      induction i with
      | zero => simp
      | succ i ih => rw [List.range_succ, List.flatMap_append, List.length_append, ih]; simp [hlr, Nat.add_mul]
    generalize turN r = t at *
    walk_at "ev"
    refine for_range (lo := 0) (n := x) (fun i σ H' => Hold (∃ (lg : Addr) (s8 : Option V), σ = [x0, some (.ref sp), some (.ref dp), x3, x4, some (vN x), some (.ref bh), some (.ref lg), s8, none, none, none, none] ∧ Same H7 H' ∧ H' lg = some (.lst (((List.range i).flatMap fun d => t.map fun o => d + x * o).map vN)))) (.mk ⟨lo0, none, rfl, Same.refl _, hq7⟩) ?_ ?_
    · intro i σ H8 hi hP
      obtain ⟨lg, s8, rfl, sm8, hq8⟩ := hP.un
      have hL8 : SqL K H8 lg _ := SqL.of hq8
      have hLb8 := sm8.seq hLb
      have hLb8' : ∃ xs, SqL K H8 bh xs := ⟨_, hLb8⟩
      have hl8 := hll i
      have hib : i * cntN r ≤ x * cntN r := Nat.mul_le_mul_right _ (by omega)
      have hes : ((List.range (i + 1)).flatMap fun d => t.map fun o => d + x * o) = ((List.range i).flatMap fun d => t.map fun o => d + x * o) ++ t.map fun o => i + x * o := by
        rw [List.range_succ, List.flatMap_append]
        simp
      generalize ((List.range i).flatMap fun d => t.map fun o => d + x * o) = acc at *
      walk_at "ev"
      intro D hD
      refine lc_list (K := K) (a := bh) (xs := t.map vN) (fun j H' => Hold (Same H8 H' ∧ H' D = some (.lst (((t.take j).map fun o => i + x * o).map vN)))) (.mk ⟨same_new hD, upd_same⟩) ?_ ?_ ?_
      · intro j H9 hj hP9
        obtain ⟨sm9, hD9⟩ := hP9.un
        exact sm9.seq hLb8
      · intro j v H9 hv hP9
        obtain ⟨sm9, hD9⟩ := hP9.un
        rw [List.getElem?_map] at hv
        obtain ⟨o, ho, ev⟩ := Option.map_eq_some_iff.mp hv
        subst ev
        have hjl : j < t.length := (List.getElem?_eq_some_iff.mp ho).1
        have cm : CMul (x : Int) (o : Int) := .inl ⟨by omega, by omega⟩
        have hr1 := cnt_pos hgr.1
        have hr6 := hgr.2.1
        have hsz : (((t.take j).map fun o => i + x * o).map vN).length < sizeLine := szm (by rw [List.length_map, List.length_map, List.length_take]; omega)
        walk_at "ev"
        refine .mk ⟨same_mut sm9 hD, ?_⟩
        have e3 : V.int ((0 + (i : Int)) + (x : Int) * (o : Int)) = vN (i + x * o) := by
          show V.int _ = V.int _
          rw [Int.zero_add, Int.natCast_add, Int.natCast_mul]
        rw [upd_same, List.take_add_one, ho, List.map_append, List.map_append]
        show some (HO.lst (_ ++ [V.int ((0 + (i : Int)) + (x : Int) * (o : Int))])) = _
        rw [e3]
        rfl
      · intro H9 hP9
        obtain ⟨sm9, hD9⟩ := hP9.un
        rw [List.length_map, List.take_length] at hD9
        have hL9 := sm9 _ _ hq8
        have hsz : (acc.map vN).length + ((t.map fun o => i + x * o).map vN).length ≤ sizeLine := szl (by rw [List.length_map, List.length_map, List.length_map]; have := hgr.2.1; omega)
        walk_at "ev"
        intro l10 hl10
        generalize hG : upd _ l10 _ = H10
        obtain ⟨sm10, hq10⟩ := newO hG hl10
        clear hG
        refine .mk ⟨l10, _, rfl, sm8.trans (sm9.trans sm10), ?_⟩
        rw [hq10, hes, List.map_append]
    · intro σ H8 hP
      obtain ⟨lg, s8, rfl, sm8, hq8⟩ := hP.un
      have hd8 := sm8 _ _ hdp7
      have hq8' : H8 lg = some (.lst ((lonN x t).map vN)) := hq8
      rw [vNi] at hd8 hq8'
      refine ⟨_, rfl, _, rfl, ned_ints (SqL.of hd8) (SqL.of hq8') ?_⟩
      rw [decide_eq_true rfl]
      walk_at "ev"
      exact fin sp (x :: r) H8 _ _ _ _ _ _ _ _ (sm8 _ _ hsp7) hg fun H' sm => q _ (sm37.trans (sm8.trans sm))
end
section
variable {P : Program} {w : World} {K : PySem.W.Frag} {mg : Str → Option Value} {base : Heap}
theorem right_C {f fU fS : Addr} {dU dS : FuncData} {cdv : Value} {A : Around} {outer : List Env} {s : Shared} {H : Hp} {Q : VK} {E : XK} {k : Nat} (T : Blt mg) (hr : Room (k + 4) (A.deeper (PyProof.Rows.envOfC "_law_right" (defScope s__law_right) s.heap.objs.size f cdv))) (D_turned_order : Df K mg "turned_order" s_turned_order P_turned_order fU dU) (D__law_same : Df K mg "_law_same" s__law_same P__law_same fS dS) :
    ∃ tl, PSs (cxOf CX0 P w K mg base N__law_right "_law_right" (defScope s__law_right) f cdv A outer s H E).nox ((defBody s__law_right).drop 7) tl ∧ ∀ (sp dp : Addr) (L : List Nat) (H3 : Hp) (x0 x3 x4 : Option V), H3 sp = some (.lst (L.map vN)) → H3 dp = some (.lst ((turN L).map vN)) → Gd L → (∀ H', Same H3 H' → Q (.bl true) H') → tl { nx := fun _ H' => Q .non H', rt := Q } [x0, some (.ref sp), some (.ref dp), x3, x4, none, none, none, none, none, none, none, none] H3 := by
  obtain ⟨tl, htl, fin⟩ := right_B (P := P) (w := w) (base := base) (outer := outer) (H := H) (Q := Q) (E := E) T hr D_turned_order
  have G__law_same : FnOk P w K mg base CX0 3 fS dS P__law_same (spSame K 2) := ok_same D__law_same T 2
  have nd := sc__law_right.nd
  refine ⟨_, (pss_cons (ps_if (PW.pt (pw_and (pt_cmpR op_lt (pe_callB (r := rLenQ K) call_len_seq (by rfl) T.b_len (by decide +kernel) (pa_cons (pv 1) pa_nil)) (pe_int) (nomark _)) (pw_and1 (pt_not (pt_val (pe_call G__law_same (hr.mono (by omega)) (by rfl) D__law_same.g D__law_same.F.kp D__law_same.b .nil pass0 (pa_cons (pv 2) (pa_cons (pe_listRg (by rfl) (by rfl) T.b_list (prg_1 (by rfl) T.b_range (pe_callB (r := rLenQ K) call_len_seq (by rfl) T.b_len (by decide +kernel) (pa_cons (pv 2) pa_nil)))) pa_nil)))))))) (pss_one (ps_ret (pe_bl))) pss_nil)
      htl), ?_⟩
  intro sp dp L H3 x0 x3 x4 hsp hdp hg q
  have hLs : SqL K H3 sp (L.map vN) := SqL.of hsp
  have hLd : SqL K H3 dp ((turN L).map vN) := SqL.of hdp
  have hl := tur_len hg
  have hc6 := hg.2.1
  walk_at "ev"
  rw [List.length_map]
  by_cases c : (L.length : Int) < 2
  · rw [decide_eq_true c]
    have hfr := (ord_facts hg).2.2.2.1 (by omega)
    have rg : RgOk 0 (((turN L).map vN).length : Int) := RgOk.of_le (by decide) (by rw [List.length_map]; omega) (by decide) (by omega)
    walk_at "ev"
    intro lr hlr
    generalize hG : upd _ lr _ = H4
    obtain ⟨sm4, hq4⟩ := newO hG hlr
    clear hG
    rw [List.length_map, hl, rgV_eq] at hq4
    have hdx := dpN (sm4.seq hLd)
    rw [hfr] at hdx
    have hdy : Dp K H4 (.ref lr) (.list (((List.range (cntN L)).map Int.ofNat).map PyData.int)) := .lst (SqL.of hq4) (dp_ints _)
    have hft := fit_mono (fitN (L := List.range (cntN L)) (by rw [List.length_range]; omega))
    walk_at "ev"
    intro H5 sm5
    walk_at "ev"
    exact fin sp dp L H5 _ _ _ (sm5 _ _ (sm4 _ _ hsp)) (sm5 _ _ (sm4 _ _ hdp)) hg fun H' sm => q _ (sm4.trans (sm5.trans sm))
  · rw [decide_eq_false c]
    walk_at "ev"
    exact fin sp dp L H3 _ _ _ hsp hdp hg q
theorem ok_rt {f fT fP fD fU fI fW fV fS : Addr} {fd dT dP dD dU dI dW dV dS : FuncData} {k : Nat} (F : Fun K "_law_right" "_law_right" s__law_right f fd) (T : Blt mg) (D__law_take : Df K mg "_law_take" s__law_take P__law_take fT dT) (D__law_parts : Df K mg "_law_parts" s__law_parts P__law_parts fP dP) (D__law_due : Df K mg "_law_due" s__law_due P__law_due fD dD)
    (D_turned_order : Df K mg "turned_order" s_turned_order P_turned_order fU dU) (D_is_order : Df K mg "is_order" s_is_order P_is_order fI dI) (D_is_whole : Df K mg "is_whole" s_is_whole P_is_whole fW dW) (D_inverse_order : Df K mg "inverse_order" s_inverse_order P_inverse_order fV dV) (D__law_same : Df K mg "_law_same" s__law_same P__law_same fS dS) : FnOk P w K mg base CX0 (k + 5) f fd P__law_right spRt := by
  have G__law_parts : FnOk P w K mg base CX0 2 fP dP P__law_parts spPts := ok_pts D__law_parts.F T D__law_take
  have G__law_due : FnOk P w K mg base CX0 1 fD dD P__law_due (spDue K) := ok_due D__law_due.F T
  have G_turned_order : FnOk P w K mg base CX0 1 fU dU P_turned_order (spTur K) := ok_tur D_turned_order.F T
  have G_turned_orderT : FnOk P w K mg base CX0 1 fU dU P_turned_order (spTurT K) := ok_turT D_turned_order.F T
  have G_is_order : FnOk P w K mg base CX0 2 fI dI P_is_order (spIsOrd K) := ok_isord D_is_order.F T D_is_whole
  have G_inverse_order : FnOk P w K mg base CX0 1 fV dV P_inverse_order (spInvO K) := ok_invo D_inverse_order.F T
  have G__law_same : FnOk P w K mg base CX0 3 fS dS P__law_same (spSame K 2) := ok_same D__law_same T 2
  have nd := sc__law_right.nd
  refine F.ok sc__law_right (fun vs H Q E h => ?_) (fun cdv A outer s H vs Q E hr h => ?_)
  · obtain ⟨b, n, rfl, _⟩ := h
    rfl
  · obtain ⟨b, n, rfl, hb, hn, q⟩ := h
    obtain ⟨tl, htl, fin⟩ := right_C (P := P) (w := w) (base := base) (outer := outer) (H := H) (Q := Q) (E := E) T hr D_turned_order D__law_same
    refine ⟨_, (pss_cons (ps_set (i := 1) nd rfl (Or.inl rfl) (pe_call G__law_parts (hr.mono (by omega)) (by rfl) D__law_parts.g D__law_parts.F.kp D__law_parts.b .nil pass0 (pa_cons (pv 0) pa_nil)))
      (pss_cons (ps_par (i := 2) (j := 3) (by rfl) nd rfl rfl (by decide) rfl rfl (pa_cons (pe_call G__law_due (hr.mono (by omega)) (by rfl) D__law_due.g D__law_due.F.kp D__law_due.b .nil pass0 (pa_cons (pv 1) pa_nil)) (pa_cons (pe_callTy call_list_of (by rfl) T.b_list (by decide +kernel) (pa_cons (pv 1) pa_nil)) pa_nil)) (by rfl))
      (pss_cons (ps_set (i := 4) nd rfl (Or.inl rfl) (pe_lst (pa_cons (pe_call G_turned_order (hr.mono (by omega)) (by rfl) D_turned_order.g D_turned_order.F.kp D_turned_order.b .nil pass0 (pa_cons (pv 1) pa_nil)) (pa_cons (pe_call G_turned_orderT (hr.mono (by omega)) (by rfl) D_turned_order.g D_turned_order.F.kp D_turned_order.b .nil pass0 (pa_cons (pe_callTy call_tuple_of (by rfl) T.b_tuple (by decide +kernel) (pa_cons (pv 1) pa_nil)) pa_nil)) (pa_cons (pe_call G_turned_order (hr.mono (by omega)) (by rfl) D_turned_order.g D_turned_order.F.kp D_turned_order.b .nil pass0 (pa_cons (pv 1) pa_nil)) pa_nil)))))
      (pss_cons (ps_if (PW.pt (pw_or (pt_not (pt_val (pe_call G__law_same (hr.mono (by omega)) (by rfl) D__law_same.g D__law_same.F.kp D__law_same.b .nil pass0 (pa_cons (pv 4) (pa_cons (pe_op op_rep (pe_lst (pa_cons (pv 2) pa_nil)) (pe_int)) pa_nil))))) (pw_or (pt_cmpR op_notBl (pe_call G_is_order (hr.mono (by omega)) (by rfl) D_is_order.g D_is_order.F.kp D_is_order.b .nil pass0 (pa_cons (pe_ix (r := rIxL K) ix_list (pv 4) (pe_int) (fun _ _ => rfl)) pa_nil)) (pe_bl) (nomark _)) (pw_or1 (pt_cmpR (r := rNeD K) (op_neD hr.units) (pv 1) (pv 3) (nomark _)))))) (pss_one (ps_ret (pe_bl))) pss_nil)
      (pss_cons (ps_expr (pe_bm0 PySem.F.plainAttrs_list PySem.F.slot_list_reverse PySem.F.type_list_reverse mt_reverse (pe_ix (r := rIxL K) ix_list (pv 4) (pe_int) (fun _ _ => rfl))))
      (pss_cons (ps_expr (pe_bm0 PySem.F.plainAttrs_list PySem.F.slot_list_clear PySem.F.type_list_clear mt_clear (pe_ix (r := rIxL K) ix_list (pv 4) (pe_int) (fun _ _ => rfl))))
      (pss_cons (ps_if (pt_not (pt_val (pe_call G__law_same (hr.mono (by omega)) (by rfl) D__law_same.g D__law_same.F.kp D__law_same.b .nil pass0 (pa_cons (pe_lst (pa_cons (pe_ix (r := rIxL K) ix_list (pv 4) (pe_int) (fun _ _ => rfl)) (pa_cons (pe_call G_turned_order (hr.mono (by omega)) (by rfl) D_turned_order.g D_turned_order.F.kp D_turned_order.b .nil pass0 (pa_cons (pe_revL (pv 1)) pa_nil)) pa_nil))) (pa_cons (pe_lst (pa_cons (pv 2) (pa_cons (pe_call G_inverse_order (hr.mono (by omega)) (by rfl) D_inverse_order.g D_inverse_order.F.kp D_inverse_order.b .nil pass0 (pa_cons (pv 2) pa_nil)) pa_nil))) pa_nil))))) (pss_one (ps_ret (pe_bl))) pss_nil)
      htl))))))), ?_⟩
    walk_at "ev"
    intro sp L H1 hg hsp0 k1 b1 hsp
    have nsb : sp ≠ b := fun z => by
      obtain ⟨o, h2⟩ := hb.some
      rw [z, h2] at hsp0
      cases hsp0
    walk_at "ev"
    intro dp H2 hdp0 sm2 hdp
    have f1 := (ord_facts hg).1
    rw [← f1] at hdp
    have hsp2 := sm2 _ _ hsp
    have hs2 : SqL K H2 sp (L.map vN) ∨ SqT K H2 sp (L.map vN) := .inl (SqL.of hsp2)
    walk_at "ev"
    intro st hst
    generalize hG : upd _ st _ = H3
    obtain ⟨sm3, hq3⟩ := newO hG hst
    clear hG
    have hsp3 := sm3 _ _ hsp2
    have hdp3 := sm3 _ _ hdp
    have hL3 : SqL K H3 sp (L.map vN) := SqL.of hsp3
    walk_at "ev"
    intro t1 H4 ht1 sm4 hq4
    have hL4 := sm4.seq hL3
    refine ⟨_, rfl, sp, _, rfl, .inl ⟨hL4, fun tu htu => ?_⟩⟩
    generalize hG : upd _ tu _ = H5
    obtain ⟨sm5, hq5⟩ := newO hG htu
    clear hG
    have hT5 : SqT K H5 tu (L.map vN) := SqT.of hq5
    walk_at "ev"
    intro t2 H6 ht2 sm6 hq6
    have hL6 := sm6.seq (sm5.seq hL4)
    walk_at "ev"
    intro t3 H7 ht3 sm7 hq7
    walk_at "ev"
    intro tl4 htl4
    generalize hG : upd _ tl4 _ = H8
    obtain ⟨sm8, hq8⟩ := newO hG htl4
    clear hG
    walk_at "ev"
    intro l9 hl9
    generalize hG : upd _ l9 _ = H9
    obtain ⟨sm9, hq9⟩ := newO hG hl9
    clear hG
    have hk : (([V.ref dp] : List V).length * (3 : Int).toNat) ≤ sizeLine := szl (by show 1 * 3 ≤ 60000; decide)
    walk_at "ev"
    intro l10 hl10
    generalize hG : upd _ l10 _ = H10
    obtain ⟨sm10, hq10⟩ := newO hG hl10
    clear hG
    have hl := tur_len hg
    have hc6 := hg.2.1
    obtain ⟨hord, hlt⟩ := tur_ord hg
    have s78 := sm8.trans (sm9.trans sm10)
    have s410 := sm5.trans (sm6.trans (sm7.trans s78))
    have s310 := sm4.trans s410
    have a1 : H10 t1 = some (.lst ((turN L).map vN)) := s410 _ _ hq4
    have a2 : H10 t2 = some (.lst ((turN L).map vN)) := (sm7.trans s78) _ _ hq6
    have a3 : H10 t3 = some (.lst ((turN L).map vN)) := s78 _ _ hq7
    have ad : H10 dp = some (.lst ((turN L).map vN)) := s310 _ _ hdp3
    have as : H10 sp = some (.lst (L.map vN)) := s310 _ _ hsp3
    have ast : H10 st = some (.lst (L.map vN)) := s310 _ _ hq3
    have a8 : H10 tl4 = some (.lst [.ref t1, .ref t2, .ref t3]) := sm10 _ _ (sm9 _ _ hq8)
    have hdx : Dp K H10 (.ref tl4) (.list [.list (((turN L).map Int.ofNat).map PyData.int), .list (((turN L).map Int.ofNat).map PyData.int), .list (((turN L).map Int.ofNat).map PyData.int)]) := .lst (SqL.of a8) (.cons (dpN (SqL.of a1)) (.cons (dpN (SqL.of a2)) (.cons (dpN (SqL.of a3)) .nil)))
    have hdy : Dp K H10 (.ref l10) (.list [.list (((turN L).map Int.ofNat).map PyData.int), .list (((turN L).map Int.ofNat).map PyData.int), .list (((turN L).map Int.ofNat).map PyData.int)]) := .lst (SqL.of hq10) (.cons (dpN (SqL.of ad)) (.cons (dpN (SqL.of ad)) (.cons (dpN (SqL.of ad)) .nil)))
    have hf1 := fitN (L := turN L) (by omega)
    have hft : Fit 2 (.list [.list (((turN L).map Int.ofNat).map PyData.int), .list (((turN L).map Int.ofNat).map PyData.int), .list (((turN L).map Int.ofNat).map PyData.int)]) := fit2 hf1 _ (by show 3 ≤ 4000; decide) fun e he => by simp only [List.mem_cons, List.not_mem_nil, or_false, or_self] at he; exact he
    walk_at "ev"
    intro H11 sm11
    have hLt : SqL K H11 tl4 [.ref t1, .ref t2, .ref t3] := SqL.of (sm11 _ _ a8)
    have at0 : atI [V.ref t1, .ref t2, .ref t3] 0 = some (.ref t1) := at_of (j := 0) rfl rfl
    have hL1i : SqL K H11 t1 (((turN L).map Int.ofNat).map V.int) := by
      rw [← vNi]
      exact SqL.of (sm11 _ _ a1)
    have hol : ((turN L).map Int.ofNat).length ≤ 1000 := by rw [List.length_map]; omega
    walk_at "ev"
    intro H12 sm12
    have s012 := sm11.trans sm12
    have bs := s012 _ _ as
    have bst := s012 _ _ ast
    have hds : Dp K H12 (.ref sp) (.list ((L.map Int.ofNat).map PyData.int)) := dpN (SqL.of bs)
    have hdt : Dp K H12 (.ref st) (.list ((L.map Int.ofNat).map PyData.int)) := dpN (SqL.of bst)
    have shp := PySem.W.ke_shaped_ints (L.map Int.ofNat)
    have eqv : PyData.eqv (.list ((L.map Int.ofNat).map PyData.int)) (.list ((L.map Int.ofNat).map PyData.int)) = true := by
      rw [PyData.eqv]
      exact (eqv_ints _ _).trans (decide_eq_true rfl)
    walk_at "ev"
    rw [eqv]
    have b8 := s012 _ _ a8
    have hLt12 : SqL K H12 tl4 [.ref t1, .ref t2, .ref t3] := SqL.of b8
    have at1 : atI [V.ref t1, .ref t2, .ref t3] 1 = some (.ref t2) := at_of (j := 1) rfl rfl
    have at2 : atI [V.ref t1, .ref t2, .ref t3] 2 = some (.ref t3) := at_of (j := 2) rfl rfl
    have b1' := s012 _ _ a1
    have b2' := s012 _ _ a2
    have b3' := s012 _ _ a3
    have bd := s012 _ _ ad
    have n18 : tl4 ≠ t1 := (ne_of_none ((sm5.trans (sm6.trans sm7)) _ _ hq4) htl4).symm
    have n12 : t2 ≠ t1 := (ne_of_none (sm5 _ _ hq4) ht2).symm
    have n13 : t3 ≠ t1 := (ne_of_none ((sm5.trans sm6) _ _ hq4) ht3).symm
    have n1s : sp ≠ t1 := ne_of_none hsp3 ht1
    have n1d : dp ≠ t1 := ne_of_none hdp3 ht1
    have n28 : tl4 ≠ t2 := (ne_of_none (sm7 _ _ hq6) htl4).symm
    have n23 : t3 ≠ t2 := (ne_of_none hq6 ht3).symm
    have n2s : sp ≠ t2 := ne_of_none ((sm4.trans sm5) _ _ hsp3) ht2
    have n2d : dp ≠ t2 := ne_of_none ((sm4.trans sm5) _ _ hdp3) ht2
    have c8 : SqL K (upd H12 t1 (.lst ((turN L).map vN).reverse)) tl4 [.ref t1, .ref t2, .ref t3] := SqL.of (by rw [upd_ne n18]; exact b8)
    have c2 : (upd H12 t1 (.lst ((turN L).map vN).reverse)) t2 = some (.lst ((turN L).map vN)) := by rw [upd_ne n12]; exact b2'
    have q14 : ∀ a o, a ≠ t1 → a ≠ t2 → H12 a = some o → (upd (upd H12 t1 (.lst ((turN L).map vN).reverse)) t2 (.lst [])) a = some o := fun a o h1 h2 h => by rw [upd_ne h2, upd_ne h1]; exact h
    have d8 : SqL K (upd (upd H12 t1 (.lst ((turN L).map vN).reverse)) t2 (.lst [])) tl4 [.ref t1, .ref t2, .ref t3] := SqL.of (q14 _ _ n18 n28 b8)
    have ds : (upd (upd H12 t1 (.lst ((turN L).map vN).reverse)) t2 (.lst [])) sp = some (.lst (L.map vN)) := q14 _ _ n1s n2s bs
    have dds := SqL.of (K := K) ds
    have dd : (upd (upd H12 t1 (.lst ((turN L).map vN).reverse)) t2 (.lst [])) dp = some (.lst ((turN L).map vN)) := q14 _ _ n1d n2d bd
    have d3 : (upd (upd H12 t1 (.lst ((turN L).map vN).reverse)) t2 (.lst [])) t3 = some (.lst ((turN L).map vN)) := q14 _ _ n13 n23 b3'
    have ht10 : H1 t1 = none := (sm2.trans sm3).free ht1
    have ht20 : H1 t2 = none := (sm2.trans (sm3.trans (sm4.trans sm5))).free ht2
    have s112 : Same H1 H12 := sm2.trans (sm3.trans (s310.trans s012))
    have s114 : Same H1 (upd (upd H12 t1 (.lst ((turN L).map vN).reverse)) t2 (.lst [])) := same_mut (same_mut s112 ht10) ht20
    walk_at "ev"
    generalize upd (upd H12 t1 (.lst ((turN L).map vN).reverse)) t2 (.lst []) = H14 at *
    intro rv hrv
    generalize hG : upd _ rv _ = H15
    obtain ⟨sm15, hq15⟩ := newO hG hrv
    clear hG
    rw [← List.map_reverse] at hq15
    have hL15 : SqL K H15 rv (L.reverse.map vN) := SqL.of hq15
    have hgr := hg.rev
    walk_at "ev"
    intro t7 H16 ht7 sm16 hq16
    walk_at "ev"
    intro l17 hl17
    generalize hG : upd _ l17 _ = H17
    obtain ⟨sm17, hq17⟩ := newO hG hl17
    clear hG
    have s1417 := sm15.trans (sm16.trans sm17)
    have hLd17 : SqL K H17 dp ((turN L).map vN) := SqL.of (s1417 _ _ dd)
    have ht1k : (turN L).length ≤ 1000 := by omega
    walk_at "ev"
    intro iv H18 hiv sm18 hq18
    rw [(ord_facts hg).2.2.1] at hq18
    walk_at "ev"
    intro l19 hl19
    generalize hG : upd _ l19 _ = H19
    obtain ⟨sm19, hq19⟩ := newO hG hl19
    clear hG
    have s1719 := sm18.trans sm19
    have hlr := tur_len hgr
    rw [cnt_rev] at hlr
    have e3 := (s1417.trans s1719) _ _ d3
    have ed := (s1417.trans s1719) _ _ dd
    have e7 := (sm17.trans s1719) _ _ hq16
    have ev := sm19 _ _ hq18
    have e17 := s1719 _ _ hq17
    have hdx2 : Dp K H19 (.ref l17) (.list [.list (((turN L).map Int.ofNat).map PyData.int), .list (((turN L.reverse).map Int.ofNat).map PyData.int)]) := .lst (SqL.of e17) (.cons (dpN (SqL.of e3)) (.cons (dpN (SqL.of e7)) .nil))
    have hdy2 : Dp K H19 (.ref l19) (.list [.list (((turN L).map Int.ofNat).map PyData.int), .list (((turN L.reverse).map Int.ofNat).map PyData.int)]) := .lst (SqL.of hq19) (.cons (dpN (SqL.of ed)) (.cons (dpN (SqL.of ev)) .nil))
    have hf2 := fitN (L := turN L.reverse) (by omega)
    have hft2 : Fit 2 (.list [.list (((turN L).map Int.ofNat).map PyData.int), .list (((turN L.reverse).map Int.ofNat).map PyData.int)]) := ⟨by show 2 ≤ 4000; decide, fun e he => by
      simp only [List.mem_cons, List.not_mem_nil, or_false] at he
      rcases he with h | h <;> rw [h]
      · exact hf1
      · exact hf2⟩
    walk_at "ev"
    intro H20 sm20
    walk_at "ev"
    have sA : Same H1 H20 := s114.trans (s1417.trans (s1719.trans sm20))
    exact fin sp dp L H20 _ _ _ ((s1417.trans (s1719.trans sm20)) _ _ ds) ((s1417.trans (s1719.trans sm20)) _ _ dd) hg fun H' sm => q _ (k1.trans (keepS (sA.trans sm))) ((b1.same (sA.trans sm)).mono (by omega))
end
abbrev s_law : Stmt := top 14
abbrev N_law : List Str := ["_law_script", "_law_cells", "_law_k", "_law_box_here", "_law_turn"]
abbrev P_law : List Str := ["_law_script"]
theorem sc_law : FnScope N_law P_law (defScope s_law) := ⟨rfl, rfl, rfl, by decide +kernel, rfl, by decide +kernel, by decide +kernel⟩
def spLaw (K : PySem.W.Frag) : Sp := fun vs H Q _ => ∃ (a : Addr) (ns : List Int), vs = [.ref a] ∧ SqL K H a (ns.map V.int) ∧ ns.length ≤ 63 ∧ ∀ H', Q (.bl true) H'
structure Fns (P : Program) (w : World) (K : PySem.W.Frag) (mg : Str → Option Value) (base : Heap) : Prop where
  whole : ∃ f fd, Df K mg "is_whole" s_is_whole P_is_whole f fd
  isord : ∃ f fd, Df K mg "is_order" s_is_order P_is_order f fd
  invo : ∃ f fd, Df K mg "inverse_order" s_inverse_order P_inverse_order f fd
  tur : ∃ f fd, Df K mg "turned_order" s_turned_order P_turned_order f fd
  box : ∃ f fd, Df K mg "_law_box" s__law_box P__law_box f fd
  take : ∃ f fd, Df K mg "_law_take" s__law_take P__law_take f fd
  fold : ∃ f fd, Df K mg "_law_folded" s__law_folded P__law_folded f fd
  same : ∃ f fd, Df K mg "_law_same" s__law_same P__law_same f fd
  parts : ∃ f fd, Df K mg "_law_parts" s__law_parts P__law_parts f fd
  due : ∃ f fd, Df K mg "_law_due" s__law_due P__law_due f fd
  right : ∃ f fd, Df K mg "_law_right" s__law_right P__law_right f fd
section
variable {P : Program} {w : World} {K : PySem.W.Frag} {mg : Str → Option Value} {base : Heap}
theorem ok_law {f : Addr} {fd : FuncData} (F : Fun K "law" "law" s_law f fd) (T : Blt mg) (U : Fns P w K mg base) : FnOk P w K mg base CX0 6 f fd P_law (spLaw K) := by
  obtain ⟨⟨f1, d1, D_is_whole⟩, ⟨f2, d2, D_is_order⟩, ⟨f3, d3, D_inverse_order⟩, ⟨f4, d4, D_turned_order⟩, ⟨f5, d5, D__law_box⟩, ⟨f6, d6, D__law_take⟩, ⟨f7, d7, D__law_folded⟩, ⟨f8, d8, D__law_same⟩, ⟨f9, d9, D__law_parts⟩, ⟨f10, d10, D__law_due⟩, ⟨f11, d11, D__law_right⟩⟩ := U
  have G__law_box : FnOk P w K mg base CX0 1 f5 d5 P__law_box (spBox K) := ok_box D__law_box.F T
  have G__law_folded : FnOk P w K mg base CX0 1 f7 d7 P__law_folded (spFold K) := ok_fold D__law_folded.F T
  have G_turned_order : FnOk P w K mg base CX0 1 f4 d4 P_turned_order (spTur K) := ok_tur D_turned_order.F T
  have G__law_same : FnOk P w K mg base CX0 3 f8 d8 P__law_same (spSame K 2) := ok_same D__law_same T 2
  have G__law_right : FnOk P w K mg base CX0 5 f11 d11 P__law_right spRt := ok_rt (k := 0) D__law_right.F T D__law_take D__law_parts D__law_due D_turned_order D_is_order D_is_whole D_inverse_order D__law_same
  have nd := sc_law.nd
  refine F.ok sc_law (fun vs H Q E h => ?_) (fun cdv A outer s H vs Q E hr h => ?_)
  · obtain ⟨a, ns, rfl, _⟩ := h
    rfl
  · obtain ⟨a, ns, rfl, hS, hlen, q⟩ := h
    refine ⟨_, (pss_cons (ps_set (i := 1) nd rfl (Or.inl rfl) (pe_call G__law_folded (hr.mono (by omega)) (by rfl) D__law_folded.g D__law_folded.F.kp D__law_folded.b .nil pass0 (pa_cons (pv 0) (pa_cons (pe_int) pa_nil))))
      (pss_cons (ps_for PassesOwn.never rfl (pi_range1 (by rfl) T.b_range (pa_cons (pe_callB (r := rLenQ K) call_len_seq (by rfl) T.b_len (by decide +kernel) (pa_cons (pv 1) pa_nil)) pa_nil)) (pg_name (i := 2) nd rfl (Or.inl rfl))
      (pss_cons (ps_set (i := 3) nd rfl (Or.inr rfl) (pe_call G__law_box (hr.mono (by omega)) (by rfl) D__law_box.g D__law_box.F.kp D__law_box.b .nil pass0 (pa_cons (pv 1) (pa_cons (pv 2) pa_nil))))
      (pss_one (ps_if (pt_not (pt_val (pe_callB (r := rAll K) (cr_all rfl) (by rfl) T.b_all (by decide +kernel) (pa_cons (pe_lc (own := [("_law_turn", 4)]) (g := gName 4) (by rfl) nd (pi_range1 (by rfl) T.b_range (pa_cons (pe_int) pa_nil)) (blkOk_by (own := [("_law_turn", 4)]) (N := N_law) (sc := defScope s_law) (by decide +kernel)) (fun _ _ _ _ _ => (pg_name (i := 4) nd rfl (Or.inl rfl))) (fun _ _ _ _ _ => pts_nil) (fun _ _ _ _ _ => (pe_call G__law_right (hr.mono (by omega)) (by rfl) D__law_right.g D__law_right.F.kp D__law_right.b .nil pass0 (pa_cons (pv 3) pa_nil)))) pa_nil)))) (pss_one (ps_ret (pe_bl))) pss_nil))))
      (pss_one (ps_ret (pe_call G__law_same (hr.mono (by omega)) (by rfl) D__law_same.g D__law_same.F.kp D__law_same.b .nil pass0 (pa_cons (pe_lst (pa_cons (pe_call G_turned_order (hr.mono (by omega)) (by rfl) D_turned_order.g D_turned_order.F.kp D_turned_order.b .nil pass0 (pa_cons (pe_lst pa_nil) pa_nil)) (pa_cons (pe_call G_turned_order (hr.mono (by omega)) (by rfl) D_turned_order.g D_turned_order.F.kp D_turned_order.b .nil pass0 (pa_cons (pe_lst (pa_cons (pe_int) (pa_cons (pe_int) pa_nil))) pa_nil)) pa_nil))) (pa_cons (pe_lst (pa_cons (pe_lst (pa_cons (pe_int) pa_nil)) (pa_cons (pe_lst (pa_cons (pe_int) (pa_cons (pe_int) (pa_cons (pe_int) (pa_cons (pe_int) (pa_cons (pe_int) (pa_cons (pe_int) pa_nil))))))) pa_nil))) pa_nil))))))), ?_⟩
    walk_at "ev"
    intro ce cs H1 hc1 hc4 hce0 sm1 hce
    have hLc : SqL K H1 ce (cs.map V.int) := SqL.of hce
    walk_at "ev"
    refine for_range (lo := 0) (n := _) (fun i σ H' => Hold (∃ s2 s3, σ = [some (.ref a), some (.ref ce), s2, s3, none] ∧ Same H1 H')) (.mk ⟨none, none, rfl, Same.refl _⟩) ?_ ?_
    · intro i σ H2 hi hP
      obtain ⟨s2, s3, rfl, sm2⟩ := hP.un
      have hi4 : i < 5 := by
        have : ((cs.map V.int).length : Int).toNat = cs.length := by rw [List.length_map]; rfl
        omega
      have hLc2 := sm2.seq hLc
      walk_at "ev"
      intro b H3 hb0 sm3 hbx
      have hbf : H1 b = none := sm2.free hb0
      walk_at "ev"
      intro D hD
      have nDb := hbx.ne hD
      refine lc_range (lo := 0) (n := (5 : Int).toNat) (fun j H' => Hold (Keep b H3 H' ∧ BoxAt H' b (12 * (j : Int)) ∧ H' D = some (.lst ((List.replicate j true).map V.bl)))) (.mk ⟨keepS (same_new hD), (hbx.upd nDb).mono (by omega), upd_same⟩) ?_ ?_
      · intro j H4 hj hP4
        obtain ⟨k4, b4, hD4⟩ := hP4.un
        have hj5 : j < 5 := hj
        walk_at "ev"
        intro H5 k5 b5
        have hD5 := k5 _ _ nDb hD4
        refine ⟨_, hD5, szm (by rw [List.length_map, List.length_replicate]; omega), .mk ⟨keep_fresh (k4.trans k5) hD, (b5.upd nDb).mono (by omega), ?_⟩⟩
        rw [upd_same, List.replicate_succ', List.map_append]
        rfl
      · intro H4 hP4
        obtain ⟨k4, b4, hD4⟩ := hP4.un
        refine ⟨D, _, rfl, SqL.of hD4, ?_⟩
        rw [all_true]
        walk_at "ev"
        exact .mk ⟨_, _, rfl, keep_same (sm2.trans sm3) hbf k4⟩
    · intro σ H2 hP
      obtain ⟨s2, s3, rfl, sm2⟩ := hP.un
      walk_at "ev"
      intro e0 he0
      generalize hG : upd _ e0 _ = H3
      obtain ⟨sm3, hq3⟩ := newO hG he0
      clear hG
      have hL3 : SqL K H3 e0 (([] : List Nat).map vN) := SqL.of hq3
      have g0 : Gd [] := ⟨by decide, by decide, by decide⟩
      have g23 : Gd [2, 3] := ⟨by decide, by decide, by decide⟩
      walk_at "ev"
      intro t1 H4 ht1 sm4 hq4
      walk_at "ev"
      intro e1 he1
      generalize hG : upd _ e1 _ = H5
      obtain ⟨sm5, hq5⟩ := newO hG he1
      clear hG
      have hL5 : SqL K H5 e1 (([2, 3] : List Nat).map vN) := SqL.of hq5
      walk_at "ev"
      intro t2 H6 ht2 sm6 hq6
      walk_at "ev"
      intro l7 hl7
      generalize hG : upd _ l7 _ = H7
      obtain ⟨sm7, hq7⟩ := newO hG hl7
      clear hG
      walk_at "ev"
      intro l8 hl8
      generalize hG : upd _ l8 _ = H8
      obtain ⟨sm8, hq8⟩ := newO hG hl8
      clear hG
      walk_at "ev"
      intro l9 hl9
      generalize hG : upd _ l9 _ = H9
      obtain ⟨sm9, hq9⟩ := newO hG hl9
      clear hG
      walk_at "ev"
      intro l10 hl10
      generalize hG : upd _ l10 _ = H10
      obtain ⟨sm10, hq10⟩ := newO hG hl10
      clear hG
      have s710 := sm8.trans (sm9.trans sm10)
      have t23 : turN [2, 3] = [0, 2, 4, 1, 3, 5] := by decide
      rw [t23] at hq6
      have a1 : H10 t1 = some (.lst (([0] : List Nat).map vN)) := (sm5.trans (sm6.trans (sm7.trans s710))) _ _ hq4
      have a2 : H10 t2 = some (.lst (([0, 2, 4, 1, 3, 5] : List Nat).map vN)) := (sm7.trans s710) _ _ hq6
      have a8 : H10 l8 = some (.lst (([0] : List Nat).map vN)) := (sm9.trans sm10) _ _ hq8
      have a9 : H10 l9 = some (.lst (([0, 2, 4, 1, 3, 5] : List Nat).map vN)) := sm10 _ _ hq9
      have hdx : Dp K H10 (.ref l7) (.list [.list ((([0] : List Nat).map Int.ofNat).map PyData.int), .list ((([0, 2, 4, 1, 3, 5] : List Nat).map Int.ofNat).map PyData.int)]) := .lst (SqL.of (s710 _ _ hq7)) (.cons (dpN (SqL.of a1)) (.cons (dpN (SqL.of a2)) .nil))
      have hdy : Dp K H10 (.ref l10) (.list [.list ((([0] : List Nat).map Int.ofNat).map PyData.int), .list ((([0, 2, 4, 1, 3, 5] : List Nat).map Int.ofNat).map PyData.int)]) := .lst (SqL.of hq10) (.cons (dpN (SqL.of a8)) (.cons (dpN (SqL.of a9)) .nil))
      have hft : Fit 2 (.list [.list ((([0] : List Nat).map Int.ofNat).map PyData.int), .list ((([0, 2, 4, 1, 3, 5] : List Nat).map Int.ofNat).map PyData.int)]) := ⟨by show 2 ≤ 4000; decide, fun e he => by
        simp only [List.mem_cons, List.not_mem_nil, or_false] at he
        rcases he with h | h <;> rw [h]
        · exact fitN (by decide)
        · exact fitN (by decide)⟩
      walk_at "ev"
      intro H11 sm11
      exact q _
end
theorem all_mk {l : PySem.W.OpenLaw} {w : World} {K : PySem.W.Frag} {h : Heap} {mg : Str → Option Value} {fa : Addr} (X : K.In h) (G : h.Ns mainGlobals mg) (hfa : mg "law" = some (.ref fa))
    {od0 an0 : Option Addr} {sl0 : Array (Option Value)} {oc0 kV0 dc0 pm0 cd0 ct0 : Value} {f0 : Addr}
    {od1 an1 : Option Addr} {sl1 : Array (Option Value)} {oc1 kV1 dc1 pm1 cd1 ct1 : Value} {f1 : Addr}
    {od2 an2 : Option Addr} {sl2 : Array (Option Value)} {oc2 kV2 dc2 pm2 cd2 ct2 : Value} {f2 : Addr}
    {od3 an3 : Option Addr} {sl3 : Array (Option Value)} {oc3 kV3 dc3 pm3 cd3 ct3 : Value} {f3 : Addr}
    {od4 an4 : Option Addr} {sl4 : Array (Option Value)} {oc4 kV4 dc4 pm4 cd4 ct4 : Value} {f4 : Addr}
    {od5 an5 : Option Addr} {sl5 : Array (Option Value)} {oc5 kV5 dc5 pm5 cd5 ct5 : Value} {f5 : Addr}
    {od6 an6 : Option Addr} {sl6 : Array (Option Value)} {oc6 kV6 dc6 pm6 cd6 ct6 : Value} {f6 : Addr}
    {od7 an7 : Option Addr} {sl7 : Array (Option Value)} {oc7 kV7 dc7 pm7 cd7 ct7 : Value} {f7 : Addr}
    {od8 an8 : Option Addr} {sl8 : Array (Option Value)} {oc8 kV8 dc8 pm8 cd8 ct8 : Value} {f8 : Addr}
    {od9 an9 : Option Addr} {sl9 : Array (Option Value)} {oc9 kV9 dc9 pm9 cd9 ct9 : Value} {f9 : Addr}
    {od10 an10 : Option Addr} {sl10 : Array (Option Value)} {oc10 kV10 dc10 pm10 cd10 ct10 : Value} {f10 : Addr}
    {od11 an11 : Option Addr} {sl11 : Array (Option Value)} {oc11 kV11 dc11 pm11 cd11 ct11 : Value} {f11 : Addr}
    
    (a0 : PySem.W.nsIn K mainGlobals "is_whole" = some (some (.ref f0))) (l0 : K.lookup f0 = some ⟨oc0, od0, .func (PySem.W.fnOf "is_whole" "is_whole" (defArgs s_is_whole) (defBody s_is_whole) (defScope s_is_whole) .none kV0 dc0 pm0 an0 cd0 ct0), sl0⟩) (c0 : PySem.W.codeIn K cd0 "is_whole" = true) (k0 : PySem.W.keepIn K (.ref f0) = true)
    (a1 : PySem.W.nsIn K mainGlobals "is_order" = some (some (.ref f1))) (l1 : K.lookup f1 = some ⟨oc1, od1, .func (PySem.W.fnOf "is_order" "is_order" (defArgs s_is_order) (defBody s_is_order) (defScope s_is_order) .none kV1 dc1 pm1 an1 cd1 ct1), sl1⟩) (c1 : PySem.W.codeIn K cd1 "is_order" = true) (k1 : PySem.W.keepIn K (.ref f1) = true)
    (a2 : PySem.W.nsIn K mainGlobals "inverse_order" = some (some (.ref f2))) (l2 : K.lookup f2 = some ⟨oc2, od2, .func (PySem.W.fnOf "inverse_order" "inverse_order" (defArgs s_inverse_order) (defBody s_inverse_order) (defScope s_inverse_order) .none kV2 dc2 pm2 an2 cd2 ct2), sl2⟩) (c2 : PySem.W.codeIn K cd2 "inverse_order" = true) (k2 : PySem.W.keepIn K (.ref f2) = true)
    (a3 : PySem.W.nsIn K mainGlobals "turned_order" = some (some (.ref f3))) (l3 : K.lookup f3 = some ⟨oc3, od3, .func (PySem.W.fnOf "turned_order" "turned_order" (defArgs s_turned_order) (defBody s_turned_order) (defScope s_turned_order) .none kV3 dc3 pm3 an3 cd3 ct3), sl3⟩) (c3 : PySem.W.codeIn K cd3 "turned_order" = true) (k3 : PySem.W.keepIn K (.ref f3) = true)
    (a4 : PySem.W.nsIn K mainGlobals "_law_box" = some (some (.ref f4))) (l4 : K.lookup f4 = some ⟨oc4, od4, .func (PySem.W.fnOf "_law_box" "_law_box" (defArgs s__law_box) (defBody s__law_box) (defScope s__law_box) .none kV4 dc4 pm4 an4 cd4 ct4), sl4⟩) (c4 : PySem.W.codeIn K cd4 "_law_box" = true) (k4 : PySem.W.keepIn K (.ref f4) = true)
    (a5 : PySem.W.nsIn K mainGlobals "_law_take" = some (some (.ref f5))) (l5 : K.lookup f5 = some ⟨oc5, od5, .func (PySem.W.fnOf "_law_take" "_law_take" (defArgs s__law_take) (defBody s__law_take) (defScope s__law_take) .none kV5 dc5 pm5 an5 cd5 ct5), sl5⟩) (c5 : PySem.W.codeIn K cd5 "_law_take" = true) (k5 : PySem.W.keepIn K (.ref f5) = true)
    (a6 : PySem.W.nsIn K mainGlobals "_law_folded" = some (some (.ref f6))) (l6 : K.lookup f6 = some ⟨oc6, od6, .func (PySem.W.fnOf "_law_folded" "_law_folded" (defArgs s__law_folded) (defBody s__law_folded) (defScope s__law_folded) .none kV6 dc6 pm6 an6 cd6 ct6), sl6⟩) (c6 : PySem.W.codeIn K cd6 "_law_folded" = true) (k6 : PySem.W.keepIn K (.ref f6) = true)
    (a7 : PySem.W.nsIn K mainGlobals "_law_same" = some (some (.ref f7))) (l7 : K.lookup f7 = some ⟨oc7, od7, .func (PySem.W.fnOf "_law_same" "_law_same" (defArgs s__law_same) (defBody s__law_same) (defScope s__law_same) .none kV7 dc7 pm7 an7 cd7 ct7), sl7⟩) (c7 : PySem.W.codeIn K cd7 "_law_same" = true) (k7 : PySem.W.keepIn K (.ref f7) = true)
    (a8 : PySem.W.nsIn K mainGlobals "_law_parts" = some (some (.ref f8))) (l8 : K.lookup f8 = some ⟨oc8, od8, .func (PySem.W.fnOf "_law_parts" "_law_parts" (defArgs s__law_parts) (defBody s__law_parts) (defScope s__law_parts) .none kV8 dc8 pm8 an8 cd8 ct8), sl8⟩) (c8 : PySem.W.codeIn K cd8 "_law_parts" = true) (k8 : PySem.W.keepIn K (.ref f8) = true)
    (a9 : PySem.W.nsIn K mainGlobals "_law_due" = some (some (.ref f9))) (l9 : K.lookup f9 = some ⟨oc9, od9, .func (PySem.W.fnOf "_law_due" "_law_due" (defArgs s__law_due) (defBody s__law_due) (defScope s__law_due) .none kV9 dc9 pm9 an9 cd9 ct9), sl9⟩) (c9 : PySem.W.codeIn K cd9 "_law_due" = true) (k9 : PySem.W.keepIn K (.ref f9) = true)
    (a10 : PySem.W.nsIn K mainGlobals "_law_right" = some (some (.ref f10))) (l10 : K.lookup f10 = some ⟨oc10, od10, .func (PySem.W.fnOf "_law_right" "_law_right" (defArgs s__law_right) (defBody s__law_right) (defScope s__law_right) .none kV10 dc10 pm10 an10 cd10 ct10), sl10⟩) (c10 : PySem.W.codeIn K cd10 "_law_right" = true) (k10 : PySem.W.keepIn K (.ref f10) = true)
    (a11 : PySem.W.nsIn K mainGlobals "law" = some (some (.ref f11))) (l11 : K.lookup f11 = some ⟨oc11, od11, .func (PySem.W.fnOf "law" "law" (defArgs s_law) (defBody s_law) (defScope s_law) .none kV11 dc11 pm11 an11 cd11 ct11), sl11⟩) (c11 : PySem.W.codeIn K cd11 "law" = true) (k11 : PySem.W.keepIn K (.ref f11) = true)
    (z0 : PySem.W.nsIn K mainGlobals "abs" = some none) (z1 : PySem.W.nsIn K mainGlobals "all" = some none) (z2 : PySem.W.nsIn K mainGlobals "bool" = some none) (z3 : PySem.W.nsIn K mainGlobals "enumerate" = some none) (z4 : PySem.W.nsIn K mainGlobals "int" = some none) (z5 : PySem.W.nsIn K mainGlobals "isinstance" = some none) (z6 : PySem.W.nsIn K mainGlobals "len" = some none) (z7 : PySem.W.nsIn K mainGlobals "list" = some none) (z8 : PySem.W.nsIn K mainGlobals "min" = some none) (z9 : PySem.W.nsIn K mainGlobals "range" = some none) (z10 : PySem.W.nsIn K mainGlobals "sorted" = some none) (z11 : PySem.W.nsIn K mainGlobals "str" = some none) (z12 : PySem.W.nsIn K mainGlobals "tuple" = some none) (z13 : PySem.W.nsIn K mainGlobals "zip" = some none) :
    ∃ fd : FuncData, (∀ (s : Shared) (v : Value), BindsTo s fd ⟨[v], []⟩ [("_law_script", v)]) ∧ ∀ base : Heap, K.In base → base.Ns mainGlobals mg → FnOk l.prog w K mg base CX0 6 fa fd ["_law_script"] (spLaw K) := by
  have e := hfa.symm.trans (PySem.W.mg_of X G a11)
  cases e
  have T : Blt mg := ⟨PySem.W.mg_none_of X G z0, PySem.W.mg_none_of X G z1, PySem.W.mg_none_of X G z2, PySem.W.mg_none_of X G z3, PySem.W.mg_none_of X G z4, PySem.W.mg_none_of X G z5, PySem.W.mg_none_of X G z6, PySem.W.mg_none_of X G z7, PySem.W.mg_none_of X G z8, PySem.W.mg_none_of X G z9, PySem.W.mg_none_of X G z10, PySem.W.mg_none_of X G z11, PySem.W.mg_none_of X G z12, PySem.W.mg_none_of X G z13⟩
  have F0 := fun_mk (st := s_is_whole) l0 c0 k0
  have b0 := F0.binds (ps := P_is_whole) fun _ _ _ _ _ _ us hl => match us, hl with | [_], _ => rfl
  have F1 := fun_mk (st := s_is_order) l1 c1 k1
  have b1 := F1.binds (ps := P_is_order) fun _ _ _ _ _ _ us hl => match us, hl with | [_], _ => rfl
  have F2 := fun_mk (st := s_inverse_order) l2 c2 k2
  have b2 := F2.binds (ps := P_inverse_order) fun _ _ _ _ _ _ us hl => match us, hl with | [_], _ => rfl
  have F3 := fun_mk (st := s_turned_order) l3 c3 k3
  have b3 := F3.binds (ps := P_turned_order) fun _ _ _ _ _ _ us hl => match us, hl with | [_], _ => rfl
  have F4 := fun_mk (st := s__law_box) l4 c4 k4
  have b4 := F4.binds (ps := P__law_box) fun _ _ _ _ _ _ us hl => match us, hl with | [_, _], _ => rfl
  have F5 := fun_mk (st := s__law_take) l5 c5 k5
  have b5 := F5.binds (ps := P__law_take) fun _ _ _ _ _ _ us hl => match us, hl with | [_, _], _ => rfl
  have F6 := fun_mk (st := s__law_folded) l6 c6 k6
  have b6 := F6.binds (ps := P__law_folded) fun _ _ _ _ _ _ us hl => match us, hl with | [_, _], _ => rfl
  have F7 := fun_mk (st := s__law_same) l7 c7 k7
  have b7 := F7.binds (ps := P__law_same) fun _ _ _ _ _ _ us hl => match us, hl with | [_, _], _ => rfl
  have F8 := fun_mk (st := s__law_parts) l8 c8 k8
  have b8 := F8.binds (ps := P__law_parts) fun _ _ _ _ _ _ us hl => match us, hl with | [_], _ => rfl
  have F9 := fun_mk (st := s__law_due) l9 c9 k9
  have b9 := F9.binds (ps := P__law_due) fun _ _ _ _ _ _ us hl => match us, hl with | [_], _ => rfl
  have F10 := fun_mk (st := s__law_right) l10 c10 k10
  have b10 := F10.binds (ps := P__law_right) fun _ _ _ _ _ _ us hl => match us, hl with | [_], _ => rfl
  have F11 := fun_mk (st := s_law) l11 c11 k11
  refine ⟨_, fun s v => .of_eq rfl, fun base _ _ => ok_law (P := l.prog) (w := w) (base := base) F11 T ⟨⟨_, _, F0, b0, PySem.W.mg_of X G a0⟩, ⟨_, _, F1, b1, PySem.W.mg_of X G a1⟩, ⟨_, _, F2, b2, PySem.W.mg_of X G a2⟩, ⟨_, _, F3, b3, PySem.W.mg_of X G a3⟩, ⟨_, _, F4, b4, PySem.W.mg_of X G a4⟩, ⟨_, _, F5, b5, PySem.W.mg_of X G a5⟩, ⟨_, _, F6, b6, PySem.W.mg_of X G a6⟩, ⟨_, _, F7, b7, PySem.W.mg_of X G a7⟩, ⟨_, _, F8, b8, PySem.W.mg_of X G a8⟩, ⟨_, _, F9, b9, PySem.W.mg_of X G a9⟩, ⟨_, _, F10, b10, PySem.W.mg_of X G a10⟩⟩⟩
end My
open PySem PySem.W PyProof.Rows
set_option maxRecDepth 100000 in
set_option maxHeartbeats 0 in
theorem PySem.Challenge.cw_turnsums_k50_turned_orders_by_digits_holds : PySem.Challenge.rw_turnsums_k50_turned_orders_by_digits.Holds := by
  w_on; o_law; k_head; (case hw => w_witness2)
  k_fill
  refine L2.walk_of (l := PySem.Challenge.rw_turnsums_k50_turned_orders_by_digits) (n := 63) (k := 6) (x := "_law_script") (CX := fun _ => L2.CX0) (sp := fun w => My.spLaw _) rfl (by decide) rfl ⟨rfl, by decide, by decide⟩ (fun w h Y => PySem.W.kIn_of Y) ?F (fun _ _ a ns hl _ hS => ⟨a, ns, rfl, hS, hl, fun _ => rfl⟩) (fun _ _ _ _ _ h => h)
  case F =>
    intro w mg fa h KX G hmg
    refine' My.all_mk KX G hmg ?a0 ?l0 ?c0 ?k0 ?a1 ?l1 ?c1 ?k1 ?a2 ?l2 ?c2 ?k2 ?a3 ?l3 ?c3 ?k3 ?a4 ?l4 ?c4 ?k4 ?a5 ?l5 ?c5 ?k5 ?a6 ?l6 ?c6 ?k6 ?a7 ?l7 ?c7 ?k7 ?a8 ?l8 ?c8 ?k8 ?a9 ?l9 ?c9 ?k9 ?a10 ?l10 ?c10 ?k10 ?a11 ?l11 ?c11 ?k11 ?z0 ?z1 ?z2 ?z3 ?z4 ?z5 ?z6 ?z7 ?z8 ?z9 ?z10 ?z11 ?z12 ?z13
    (case a0 => k_is)
    (case l0 => k_is)
    (case c0 => k_is)
    (case k0 => k_is)
    (case a1 => k_is)
    (case l1 => k_is)
    (case c1 => k_is)
    (case k1 => k_is)
    (case a2 => k_is)
    (case l2 => k_is)
    (case c2 => k_is)
    (case k2 => k_is)
    (case a3 => k_is)
    (case l3 => k_is)
    (case c3 => k_is)
    (case k3 => k_is)
    (case a4 => k_is)
    (case l4 => k_is)
    (case c4 => k_is)
    (case k4 => k_is)
    (case a5 => k_is)
    (case l5 => k_is)
    (case c5 => k_is)
    (case k5 => k_is)
    (case a6 => k_is)
    (case l6 => k_is)
    (case c6 => k_is)
    (case k6 => k_is)
    (case a7 => k_is)
    (case l7 => k_is)
    (case c7 => k_is)
    (case k7 => k_is)
    (case a8 => k_is)
    (case l8 => k_is)
    (case c8 => k_is)
    (case k8 => k_is)
    (case a9 => k_is)
    (case l9 => k_is)
    (case c9 => k_is)
    (case k9 => k_is)
    (case a10 => k_is)
    (case l10 => k_is)
    (case c10 => k_is)
    (case k10 => k_is)
    (case a11 => k_is)
    (case l11 => k_is)
    (case c11 => k_is)
    (case k11 => k_is)
    (case z0 => k_is)
    (case z1 => k_is)
    (case z2 => k_is)
    (case z3 => k_is)
    (case z4 => k_is)
    (case z5 => k_is)
    (case z6 => k_is)
    (case z7 => k_is)
    (case z8 => k_is)
    (case z9 => k_is)
    (case z10 => k_is)
    (case z11 => k_is)
    (case z12 => k_is)
    (case z13 => k_is)

