import PyProof.Rows.All
import Wide.All
import OpenK.AllK
import Wide.FinOn
import HandS.ForMost
import HandS.Exc
import HandS.Walk
import HandS.TupAny
import HandS.Style
import HandS.IsInst
import HandS.SortRule
import HandS.SortInts
import HandS.WordsExc
import HandS.ExcOwn
import HandS.CallSlots
import HandS.Property
import HandS.SetFor
import HandS.Strs
import HandS.Deep
import KE.SortData
import HandS.ExcIs
import HandS.ExcValue
import PyProof.ReprReads
import PyProof.StrHeap
import KE.KDictZip
import PyProof.ReprBulk
import PyProof.P3Eq
import KE.RegKIsAll
import PySem.Challenge.RW_nightdeal_k02_whole_joined_met_without
set_option Elab.async false
set_option linter.all false
set_option maxRecDepth 100000
namespace Nd
open PySem L2

/-! ### data, and what stands for it in a heap -/
inductive D where
  | non | bl (b : Bool) | int (i : Int) | str (x : Str)
  | lst (xs : List D) | tup (xs : List D)
  | dk (ks : List Key) (ds : List D) | ins (C : String) (ks : List Str) (ds : List D)
  | ty (n : String) | cls (C : String) | ex (C : String) (ks : List Str) (ds : List D)

/-- classes by their names -/
abbrev Cl := String → Addr
/-- an exception that was caught: its class -/
def ExH (c : Value) (a : Addr) : HO := .ext fun h => ∃ (oe : Obj) (vs : Array Value), h.get? a = some oe ∧ Zc c none oe ∧ oe.data = .fields vs

mutual
inductive Rp (K : PySem.W.Frag) (cl : Cl) (H : Hp) : V → D → Prop
  | non : Rp K cl H .non .non
  | bl (b : Bool) : Rp K cl H (.bl b) (.bl b)
  | int (i : Int) : Rp K cl H (.int i) (.int i)
  | str (x : Str) : Rp K cl H (.str x) (.str x)
  | ty (n : String) : Rp K cl H (.ty n) (.ty n)
  | cls (C : String) : Rp K cl H (.ref (cl C)) (.cls C)
  | lst {a : Addr} {vs : List V} {ds : List D} : SqL K H a vs → RpA K cl H vs ds → Rp K cl H (.ref a) (.lst ds)
  | tup {a : Addr} {vs : List V} {ds : List D} : SqT K H a vs → RpA K cl H vs ds → Rp K cl H (.ref a) (.tup ds)
  | dk {a : Addr} {kvs : List (Key × V)} {ks : List Key} {ds : List D} : H a = some (.dK kvs) → kvs.map (·.1) = ks → RpA K cl H (kvs.map (·.2)) ds → Rp K cl H (.ref a) (.dk ks ds)
  | ins {a dx : Addr} {C : String} {fs : List (Str × V)} {ks : List Str} {ds : List D} : H a = some (.ins (cl C) dx fs) → fs.map (·.1) = ks → RpA K cl H (fs.map (·.2)) ds → Rp K cl H (.ref a) (.ins C ks ds)
  | ex {a : Addr} {C : String} : H a = some (ExH (.ref (cl C)) a) → Rp K cl H (.ref a) (.ex C [] [])
inductive RpA (K : PySem.W.Frag) (cl : Cl) (H : Hp) : List V → List D → Prop
  | nil : RpA K cl H [] []
  | cons {v : V} {vs : List V} {d : D} {ds : List D} : Rp K cl H v d → RpA K cl H vs ds → RpA K cl H (v :: vs) (d :: ds)
end

theorem sqT_same {K : PySem.W.Frag} {H H' : Hp} {a : Addr} {xs : List V} (e : Same H H') (h : SqT K H a xs) : SqT K H' a xs := by
  rcases h with (h | ⟨o, h⟩) | h
  · exact .inl (.inl (e _ _ h))
  · exact .inl (.inr ⟨o, e _ _ h⟩)
  · exact .inr h

section
variable {K : PySem.W.Frag} {cl : Cl} {H H' : Hp}
mutual
theorem Rp.mono (e : Same H H') {v : V} {d : D} (h : Rp K cl H v d) : Rp K cl H' v d := by
  cases h with
  | non => exact .non
  | bl b => exact .bl b
  | int i => exact .int i
  | str x => exact .str x
  | ty n => exact .ty n
  | cls C => exact .cls C
  | lst h1 h2 => exact .lst (e.seq h1) (RpA.mono e h2)
  | tup h1 h2 => exact .tup (sqT_same e h1) (RpA.mono e h2)
  | dk h1 h2 h3 => exact .dk (e _ _ h1) h2 (RpA.mono e h3)
  | ins h1 h2 h3 => exact .ins (e _ _ h1) h2 (RpA.mono e h3)
  | ex h1 => exact .ex (e _ _ h1)
theorem RpA.mono (e : Same H H') {vs : List V} {ds : List D} (h : RpA K cl H vs ds) : RpA K cl H' vs ds := by
  cases h with
  | nil => exact .nil
  | cons h1 h2 => exact .cons (Rp.mono e h1) (RpA.mono e h2)
end
theorem RpA.length {vs : List V} {ds : List D} (h : RpA K cl H vs ds) : vs.length = ds.length := by
  induction ds generalizing vs with
  | nil => cases h; rfl
  | cons d ds ih =>
    cases h with
    | cons h1 h2 => rw [List.length_cons, List.length_cons, ih h2]
theorem RpA.get {vs : List V} {ds : List D} (h : RpA K cl H vs ds) {i : Nat} {d : D} (e : ds[i]? = some d) : ∃ v, vs[i]? = some v ∧ Rp K cl H v d := by
  induction ds generalizing vs i with
  | nil => simp at e
  | cons d' ds ih =>
    cases h with
    | cons h1 h2 =>
      cases i with
      | zero => simp at e; subst e; exact ⟨_, rfl, h1⟩
      | succ i =>
        obtain ⟨v, q1, q2⟩ := ih h2 (i := i) (by simpa using e)
        exact ⟨v, by simpa using q1, q2⟩
theorem RpA.append {vs ws : List V} {ds es : List D} (h : RpA K cl H vs ds) (h' : RpA K cl H ws es) : RpA K cl H (vs ++ ws) (ds ++ es) := by
  induction ds generalizing vs with
  | nil => cases h; exact h'
  | cons d ds ih =>
    cases h with
    | cons h1 h2 => exact .cons h1 (ih h2)
theorem RpA.take {vs : List V} {ds : List D} (h : RpA K cl H vs ds) (n : Nat) : RpA K cl H (vs.take n) (ds.take n) := by
  induction ds generalizing vs n with
  | nil => cases h; simp; exact .nil
  | cons d ds ih =>
    cases h with
    | cons h1 h2 =>
      cases n with
      | zero => exact .nil
      | succ n => exact .cons h1 (ih h2 n)
theorem RpA.drop {vs : List V} {ds : List D} (h : RpA K cl H vs ds) (n : Nat) : RpA K cl H (vs.drop n) (ds.drop n) := by
  induction ds generalizing vs n with
  | nil => cases h; simp; exact .nil
  | cons d ds ih =>
    cases n with
    | zero => exact h
    | succ n =>
      cases h with
      | cons h1 h2 => exact ih h2 n
theorem RpA.reverse {vs : List V} {ds : List D} (h : RpA K cl H vs ds) : RpA K cl H vs.reverse ds.reverse := by
  induction ds generalizing vs with
  | nil => cases h; exact .nil
  | cons d ds ih =>
    cases h with
    | cons h1 h2 =>
      rw [List.reverse_cons, List.reverse_cons]
      exact (ih h2).append (.cons h1 .nil)
theorem rpA_ints : ∀ {ns : List Int}, RpA K cl H (ns.map V.int) (ns.map D.int)
  | [] => .nil
  | n :: _ => .cons (.int n) rpA_ints
/-- the values of ints are these -/
theorem RpA.ints : ∀ {ns : List Int} {vs : List V}, RpA K cl H vs (ns.map D.int) → vs = ns.map V.int
  | [], _, .nil => rfl
  | n :: ns, _, .cons h1 h2 => by cases h1; rw [RpA.ints h2]; rfl
theorem RpA.bls : ∀ {ns : List Bool} {vs : List V}, RpA K cl H vs (ns.map D.bl) → vs = ns.map V.bl
  | [], _, .nil => rfl
  | n :: ns, _, .cons h1 h2 => by cases h1; rw [RpA.bls h2]; rfl
theorem RpA.strs : ∀ {ns : List Str} {vs : List V}, RpA K cl H vs (ns.map D.str) → vs = ns.map V.str
  | [], _, .nil => rfl
  | n :: ns, _, .cons h1 h2 => by cases h1; rw [RpA.strs h2]; rfl
end

/-! ### trees of what is owned -/
inductive T where
  | p (d : D) | l (ts : List T) | k (ks : List Key) (ts : List T) | i (C : String) (ks : List Str) (ts : List T) (tg : Option Addr)
mutual
def T.toD : T → D
  | .p d => d
  | .l ts => .lst (T.toDs ts)
  | .k ks ts => .dk ks (T.toDs ts)
  | .i C ks ts _ => .ins C ks (T.toDs ts)
def T.toDs : List T → List D
  | [] => []
  | t :: ts => T.toD t :: T.toDs ts
end
theorem toDs_map : ∀ ts : List T, T.toDs ts = ts.map T.toD
  | [] => rfl
  | t :: ts => by rw [T.toDs, toDs_map ts]; rfl

mutual
inductive RT (K : PySem.W.Frag) (cl : Cl) (G H : Hp) : V → T → List Addr → Prop
  | p {v : V} {d : D} : Rp K cl G v d → RT K cl G H v (.p d) []
  | l {a : Addr} {vs : List V} {ts : List T} {F : List Addr} : H a = some (.lst vs) → RTs K cl G H vs ts F → RT K cl G H (.ref a) (.l ts) (a :: F)
  | k {a : Addr} {kvs : List (Key × V)} {ks : List Key} {ts : List T} {F : List Addr} : H a = some (.dK kvs) → kvs.map (·.1) = ks → RTs K cl G H (kvs.map (·.2)) ts F → RT K cl G H (.ref a) (.k ks ts) (a :: F)
  | i {a dx : Addr} {C : String} {fs : List (Str × V)} {ks : List Str} {ts : List T} {tg : Option Addr} {F : List Addr} : H a = some (.ins (cl C) dx fs) → fs.map (·.1) = ks → RTs K cl G H (fs.map (·.2)) ts F → (∀ b, tg = some b → b = a) → RT K cl G H (.ref a) (.i C ks ts tg) (a :: F)
inductive RTs (K : PySem.W.Frag) (cl : Cl) (G H : Hp) : List V → List T → List Addr → Prop
  | nil : RTs K cl G H [] [] []
  | cons {v : V} {t : T} {vs : List V} {ts : List T} {F1 F2 : List Addr} : RT K cl G H v t F1 → RTs K cl G H vs ts F2 → RTs K cl G H (v :: vs) (t :: ts) (F1 ++ F2)
end
section
variable {K : PySem.W.Frag} {cl : Cl} {G G' H H' : Hp}
mutual
theorem RT.mono (e : Same G G') {v : V} {t : T} {F : List Addr} (k : ∀ b ∈ F, H' b = H b) (h : RT K cl G H v t F) : RT K cl G' H' v t F := by
  cases h with
  | p h1 => exact .p (h1.mono e)
  | l h1 h2 => exact .l ((k _ List.mem_cons_self).trans h1) (RTs.mono e (fun b hb => k b (List.mem_cons_of_mem _ hb)) h2)
  | k h1 h2 h3 => exact .k ((k _ List.mem_cons_self).trans h1) h2 (RTs.mono e (fun b hb => k b (List.mem_cons_of_mem _ hb)) h3)
  | i h1 h2 h3 h4 => exact .i ((k _ List.mem_cons_self).trans h1) h2 (RTs.mono e (fun b hb => k b (List.mem_cons_of_mem _ hb)) h3) h4
theorem RTs.mono (e : Same G G') {vs : List V} {ts : List T} {F : List Addr} (k : ∀ b ∈ F, H' b = H b) (h : RTs K cl G H vs ts F) : RTs K cl G' H' vs ts F := by
  cases h with
  | nil => exact .nil
  | cons h1 h2 => exact .cons (RT.mono e (fun b hb => k b (List.mem_append_left _ hb)) h1) (RTs.mono e (fun b hb => k b (List.mem_append_right _ hb)) h2)
end
mutual
theorem RT.dom {v : V} {t : T} {F : List Addr} (h : RT K cl G H v t F) : ∀ b ∈ F, H b ≠ none := by
  cases h with
  | p h1 => intro b hb; simp at hb
  | l h1 h2 =>
    intro b hb
    rcases List.mem_cons.mp hb with rfl | hb
    · rw [h1]; simp
    · exact RTs.dom h2 b hb
  | k h1 h2 h3 =>
    intro b hb
    rcases List.mem_cons.mp hb with rfl | hb
    · rw [h1]; simp
    · exact RTs.dom h3 b hb
  | i h1 h2 h3 h4 =>
    intro b hb
    rcases List.mem_cons.mp hb with rfl | hb
    · rw [h1]; simp
    · exact RTs.dom h3 b hb
theorem RTs.dom {vs : List V} {ts : List T} {F : List Addr} (h : RTs K cl G H vs ts F) : ∀ b ∈ F, H b ≠ none := by
  cases h with
  | nil => intro b hb; simp at hb
  | cons h1 h2 =>
    intro b hb
    rcases List.mem_append.mp hb with hb | hb
    · exact RT.dom h1 b hb
    · exact RTs.dom h2 b hb
end
/-! what is owned is let go of: it is data of a heap that has all of it -/
mutual
theorem RT.freeze {v : V} {t : T} {F : List Addr} (e : Same G G') (k : ∀ b ∈ F, G' b = H b) (h : RT K cl G H v t F) : Rp K cl G' v t.toD := by
  cases h with
  | p h1 => exact h1.mono e
  | l h1 h2 => exact .lst (SqL.of ((k _ List.mem_cons_self).trans h1)) (RTs.freeze e (fun b hb => k b (List.mem_cons_of_mem _ hb)) h2)
  | k h1 h2 h3 => exact .dk ((k _ List.mem_cons_self).trans h1) h2 (RTs.freeze e (fun b hb => k b (List.mem_cons_of_mem _ hb)) h3)
  | i h1 h2 h3 h4 => exact .ins ((k _ List.mem_cons_self).trans h1) h2 (RTs.freeze e (fun b hb => k b (List.mem_cons_of_mem _ hb)) h3)
theorem RTs.freeze {vs : List V} {ts : List T} {F : List Addr} (e : Same G G') (k : ∀ b ∈ F, G' b = H b) (h : RTs K cl G H vs ts F) : RpA K cl G' vs (T.toDs ts) := by
  cases h with
  | nil => exact .nil
  | cons h1 h2 => exact .cons (RT.freeze e (fun b hb => k b (List.mem_append_left _ hb)) h1) (RTs.freeze e (fun b hb => k b (List.mem_append_right _ hb)) h2)
end
theorem RTs.length {vs : List V} {ts : List T} {F : List Addr} (h : RTs K cl G H vs ts F) : vs.length = ts.length := by
  induction ts generalizing vs F with
  | nil => cases h; rfl
  | cons d ds ih =>
    cases h with
    | cons h1 h2 => rw [List.length_cons, List.length_cons, ih h2]
theorem RTs.append {vs ws : List V} {ts us : List T} {F F' : List Addr} (h : RTs K cl G H vs ts F) (h' : RTs K cl G H ws us F') : RTs K cl G H (vs ++ ws) (ts ++ us) (F ++ F') := by
  induction ts generalizing vs F with
  | nil => cases h; exact h'
  | cons d ds ih =>
    cases h with
    | cons h1 h2 =>
      rw [List.append_assoc]
      exact .cons h1 (ih h2)
end

/-! ### a heap without some addresses -/
def hd (H : Hp) (A : List Addr) : Hp := fun a => if a ∈ A then none else H a
theorem hd_some {H : Hp} {A : List Addr} {a : Addr} {o : HO} : hd H A a = some o ↔ a ∉ A ∧ H a = some o := by
  unfold hd
  by_cases h : a ∈ A
  · rw [if_pos h]; simp [h]
  · rw [if_neg h]; simp [h]
theorem hd_of {H : Hp} {A : List Addr} {a : Addr} (h : a ∉ A) : hd H A a = H a := by unfold hd; rw [if_neg h]
theorem hd_nil {H : Hp} : hd H [] = H := by funext a; unfold hd; simp
theorem hd_same {H H' : Hp} {A A' : List Addr} (e : Same H H') (k : ∀ a ∈ A', a ∈ A ∨ H a = none) : Same (hd H A) (hd H' A') := fun b o h => by
  obtain ⟨h1, h2⟩ := hd_some.mp h
  refine hd_some.mpr ⟨fun hb => ?_, e b o h2⟩
  rcases k b hb with z | z
  · exact h1 z
  · rw [h2] at z; cases z
theorem hd_le {H : Hp} {A : List Addr} : Same (hd H A) H := fun b o h => (hd_some.mp h).2
/-- an owned object is changed: the rest stands -/
theorem hd_upd {H : Hp} {A : List Addr} {a : Addr} {o : HO} (h : a ∈ A) : hd (upd H a o) A = hd H A := by
  funext b
  unfold hd
  by_cases hb : b ∈ A
  · rw [if_pos hb, if_pos hb]
  · rw [if_neg hb, if_neg hb, upd_ne (fun e => hb (by rw [e]; exact h))]
theorem same_upd {H : Hp} {p : Addr} {o : HO} (h : H p = none) : Same H (upd H p o) := fun b x e => by
  rw [upd_ne (ne_of_none e h)]
  exact e
end Nd

namespace Nd
open PySem L2

/-! ### what a run gives -/
/-- an exception: its class, its fields -/
abbrev Xn := String × List (Str × D)
inductive RE where
  | ok (t : T) | exc (x : Xn) | bad
inductive RB where
  | ok (b : Bool) | exc (x : Xn) | bad
abbrev Env := List (Option T)
inductive R where
  | nx (e : Env) | bk (e : Env) | ct (e : Env) | rt (t : T) | exc (x : Xn) (e : Env) | bad
abbrev ME := Env → RE
abbrev MB := Env → RB
abbrev MS := Env → R

/-! ### slots -/
inductive RSl (K : PySem.W.Frag) (cl : Cl) (G H : Hp) : L2.St → Env → List Addr → Prop
  | nil : RSl K cl G H [] [] []
  | skip {x : Option V} {σ : L2.St} {e : Env} {A : List Addr} : RSl K cl G H σ e A → RSl K cl G H (x :: σ) (none :: e) A
  | cons {v : V} {t : T} {σ : L2.St} {e : Env} {F A : List Addr} : RT K cl G H v t F → RSl K cl G H σ e A → RSl K cl G H (some v :: σ) (some t :: e) (F ++ A)
section
variable {K : PySem.W.Frag} {cl : Cl} {G G' H H' : Hp} {σ : L2.St} {e : Env} {A : List Addr}
theorem RSl.mono (s : Same G G') (k : ∀ b ∈ A, H' b = H b) (h : RSl K cl G H σ e A) : RSl K cl G' H' σ e A := by
  induction h with
  | nil => exact .nil
  | skip _ ih => exact .skip (ih k)
  | cons h1 _ ih => exact .cons (h1.mono s fun b hb => k b (List.mem_append_left _ hb)) (ih fun b hb => k b (List.mem_append_right _ hb))
theorem RSl.dom (h : RSl K cl G H σ e A) : ∀ b ∈ A, H b ≠ none := by
  induction h with
  | nil => intro b hb; simp at hb
  | skip _ ih => exact ih
  | cons h1 _ ih =>
    intro b hb
    rcases List.mem_append.mp hb with hb | hb
    · exact h1.dom b hb
    · exact ih b hb
theorem RSl.length (h : RSl K cl G H σ e A) : σ.length = e.length := by
  induction h with
  | nil => rfl
  | skip _ ih => rw [List.length_cons, List.length_cons, ih]
  | cons _ _ ih => rw [List.length_cons, List.length_cons, ih]
theorem RSl.get (h : RSl K cl G H σ e A) {i : Nat} {t : T} (q : e[i]? = some (some t)) : ∃ v F, σ[i]? = some (some v) ∧ RT K cl G H v t F ∧ (∀ b ∈ F, b ∈ A) := by
  induction h generalizing i with
  | nil => simp at q
  | skip _ ih =>
    cases i with
    | zero => simp at q
    | succ i => obtain ⟨v, F, h1, h2, h3⟩ := ih (i := i) (by simpa using q); exact ⟨v, F, by simpa using h1, h2, h3⟩
  | cons h1 _ ih =>
    cases i with
    | zero =>
      simp at q
      subst q
      exact ⟨_, _, rfl, h1, fun b hb => List.mem_append_left _ hb⟩
    | succ i =>
      obtain ⟨v, F, h1, h2, h3⟩ := ih (i := i) (by simpa using q)
      exact ⟨v, F, by simpa using h1, h2, fun b hb => List.mem_append_right _ (h3 b hb)⟩
/-- a slot is stored: what it held is let go of -/
theorem RSl.set (h : RSl K cl G H σ e A) {i : Nat} {v : V} {t : T} {F : List Addr} (r : RT K cl G H v t F) (hi : i < e.length) (nd : A.Nodup) (nf : F.Nodup) (dj : ∀ b ∈ F, b ∉ A) :
    ∃ A', RSl K cl G H (σ.set i (some v)) (e.set i (some t)) A' ∧ A'.Nodup ∧ (∀ b ∈ A', b ∈ A ∨ b ∈ F) := by
  induction h generalizing i with
  | nil => simp at hi
  | @skip x σ e A h ih =>
    cases i with
    | zero => exact ⟨F ++ A, .cons r h, List.nodup_append.mpr ⟨nf, nd, fun a ha b hb z => dj a ha (z ▸ hb)⟩, fun b hb => (List.mem_append.mp hb).symm⟩
    | succ i =>
      obtain ⟨A', h1, h2, h3⟩ := ih (i := i) (by simpa using hi) nd dj
      exact ⟨A', .skip h1, h2, h3⟩
  | @cons v0 t0 σ e F0 A h0 h ih =>
    have nd' := List.nodup_append.mp nd
    cases i with
    | zero => exact ⟨F ++ A, .cons r h, List.nodup_append.mpr ⟨nf, nd'.2.1, fun a ha b hb z => dj a ha (z ▸ List.mem_append_right _ hb)⟩, fun b hb => (List.mem_append.mp hb).elim .inr fun z => .inl (List.mem_append_right _ z)⟩
    | succ i =>
      obtain ⟨A', h1, h2, h3⟩ := ih (i := i) (by simpa using hi) nd'.2.1 fun b hb z => dj b hb (List.mem_append_right _ z)
      refine ⟨F0 ++ A', .cons h0 h1, List.nodup_append.mpr ⟨nd'.1, h2, fun a ha b hb z => ?_⟩, fun b hb => ?_⟩
      · subst z
        rcases h3 a hb with q | q
        · exact nd'.2.2 a ha a q rfl
        · exact dj a q (List.mem_append_left _ ha)
      · rcases List.mem_append.mp hb with q | q
        · exact .inl (List.mem_append_left _ q)
        · rcases h3 b q with z | z
          · exact .inl (List.mem_append_right _ z)
          · exact .inr z
/-- slots are forgotten -/
theorem RSl.forget (h : RSl K cl G H σ e A) (nd : A.Nodup) (i : Nat) (x : Option V) : ∃ A', RSl K cl G H (σ.set i x) (e.set i none) A' ∧ A'.Nodup ∧ (∀ b ∈ A', b ∈ A) := by
  induction h generalizing i with
  | nil => exact ⟨[], .nil, List.nodup_nil, fun _ h => h⟩
  | @skip x0 σ e A h ih =>
    cases i with
    | zero => exact ⟨A, .skip h, nd, fun b hb => hb⟩
    | succ i =>
      obtain ⟨A', h1, h2, h3⟩ := ih nd i
      exact ⟨A', .skip h1, h2, h3⟩
  | @cons v0 t0 σ e F0 A h0 h ih =>
    have nd' := List.nodup_append.mp nd
    cases i with
    | zero => exact ⟨A, .skip h, nd'.2.1, fun b hb => List.mem_append_right _ hb⟩
    | succ i =>
      obtain ⟨A', h1, h2, h3⟩ := ih nd'.2.1 i
      refine ⟨F0 ++ A', .cons h0 h1, List.nodup_append.mpr ⟨nd'.1, h2, fun a ha b hb => nd'.2.2 a ha b (h3 b hb)⟩, fun b hb => ?_⟩
      rcases List.mem_append.mp hb with q | q
      · exact List.mem_append_left _ q
      · exact List.mem_append_right _ (h3 b q)
/-- a slot's tree is exchanged for another over the same object -/
theorem RSl.at (h : RSl K cl G H σ e A) (nd : A.Nodup) {i : Nat} {t : T} (q : e[i]? = some (some t)) : ∃ v F A1 A2, σ[i]? = some (some v) ∧ A = A1 ++ F ++ A2 ∧ RT K cl G H v t F ∧
    ∀ G2 H2 t2 F2, Same G G2 → (∀ b, b ∉ F → b ∈ A → H2 b = H b) → RT K cl G2 H2 v t2 F2 → RSl K cl G2 H2 σ (e.set i (some t2)) (A1 ++ F2 ++ A2) := by
  induction h generalizing i with
  | nil => simp at q
  | @skip x0 σ e A h ih =>
    cases i with
    | zero => simp at q
    | succ i =>
      obtain ⟨v, F, A1, A2, h1, h2, h3, h4⟩ := ih nd (i := i) (by simpa using q)
      exact ⟨v, F, A1, A2, by simpa using h1, h2, h3, fun G2 H2 t2 F2 s k r => .skip (h4 G2 H2 t2 F2 s k r)⟩
  | @cons v0 t0 σ e F0 A h0 h ih =>
    have nd' := List.nodup_append.mp nd
    cases i with
    | zero =>
      simp at q
      subst q
      refine ⟨v0, F0, [], A, rfl, rfl, h0, fun G2 H2 t2 F2 s k r => .cons r (h.mono s fun b hb => k b (fun z => nd'.2.2 b z b hb rfl) (List.mem_append_right _ hb))⟩
    | succ i =>
      obtain ⟨v, F, A1, A2, h1, h2, h3, h4⟩ := ih nd'.2.1 (i := i) (by simpa using q)
      refine ⟨v, F, F0 ++ A1, A2, by simpa using h1, by rw [h2]; simp only [List.append_assoc], h3, fun G2 H2 t2 F2 s k r => ?_⟩
      rw [List.append_assoc, List.append_assoc, ← List.append_assoc A1]
      refine .cons (h0.mono s fun b hb => k b (fun z => ?_) (List.mem_append_left _ hb)) (h4 G2 H2 t2 F2 s (fun b z hb => k b z (List.mem_append_right _ hb)) r)
      exact nd'.2.2 b hb b (by rw [h2]; exact List.mem_append_left _ (List.mem_append_right _ z)) rfl
end
end Nd

namespace Nd
open PySem L2

/-- an object that may be owned -/
def Ow : Option HO → Prop
  | some (.lst _) => True
  | some (.dK _) => True
  | some (.ins _ _ _) => True
  | _ => False
theorem Ow.ne {o : Option HO} (h : Ow o) : o ≠ none := by intro e; rw [e] at h; exact h
theorem Ow.same {H H' : Hp} (s : Same H H') {a : Addr} (h : Ow (H a)) : Ow (H' a) := by
  cases e : H a with
  | none => rw [e] at h; exact h.elim
  | some o => rw [s a o e]; rw [e] at h; exact h
section
variable {K : PySem.W.Frag} {cl : Cl} {G H : Hp}
mutual
theorem RT.ow {v : V} {t : T} {F : List Addr} (h : RT K cl G H v t F) : ∀ b ∈ F, Ow (H b) := by
  cases h with
  | p h1 => intro b hb; simp at hb
  | l h1 h2 =>
    intro b hb
    rcases List.mem_cons.mp hb with rfl | hb
    · rw [h1]; trivial
    · exact RTs.ow h2 b hb
  | k h1 h2 h3 =>
    intro b hb
    rcases List.mem_cons.mp hb with rfl | hb
    · rw [h1]; trivial
    · exact RTs.ow h3 b hb
  | i h1 h2 h3 h4 =>
    intro b hb
    rcases List.mem_cons.mp hb with rfl | hb
    · rw [h1]; trivial
    · exact RTs.ow h3 b hb
theorem RTs.ow {vs : List V} {ts : List T} {F : List Addr} (h : RTs K cl G H vs ts F) : ∀ b ∈ F, Ow (H b) := by
  cases h with
  | nil => intro b hb; simp at hb
  | cons h1 h2 =>
    intro b hb
    rcases List.mem_append.mp hb with hb | hb
    · exact RT.ow h1 b hb
    · exact RTs.ow h2 b hb
end
theorem RSl.ow {σ : L2.St} {e : Env} {A : List Addr} (h : RSl K cl G H σ e A) : ∀ b ∈ A, Ow (H b) := by
  induction h with
  | nil => intro b hb; simp at hb
  | skip _ ih => exact ih
  | cons h1 _ ih =>
    intro b hb
    rcases List.mem_append.mp hb with hb | hb
    · exact h1.ow b hb
    · exact ih b hb
end

/-! ### the ends of an expression -/
/-- how an exception lies -/
def ExcRep (cl : Cl) (x : Xn) (cv : Value) (d : Option Addr) (H : Hp) : Prop := cv = .ref (cl x.1) ∧ x.2 = [] ∧ d = none
theorem ExcRep.same {cl : Cl} {x : Xn} {cv : Value} {d : Option Addr} {H H' : Hp} (s : Same H H') (h : ExcRep cl x cv d H) : ExcRep cl x cv d H' := h

section
variable (K : PySem.W.Frag) (cl : Cl)
/-- what a value's tree is wanted to bring -/
def OkP (H : Hp) (A : List Addr) (Q : VK) (t : T) : Prop := ∀ v H2 F, Same H H2 → (∀ a ∈ F, H a = none) → F.Nodup → RT K cl (hd H2 (A ++ F)) H2 v t F → Q v H2
def ExP (E : XK) (H : Hp) (x : Xn) : Prop := ∀ cv d H2, Same H H2 → ExcRep cl x cv d H2 → E cv d H2
def EPost (E : XK) (H : Hp) (A : List Addr) (Q : VK) : RE → Prop
  | .ok t => OkP K cl H A Q t
  | .exc x => ExP cl E H x
  | .bad => False
/-- .. frozen -/
def DPost (E : XK) (H : Hp) (A : List Addr) (Q : VK) : RE → Prop
  | .ok t => ∀ v H2, Same H H2 → Rp K cl (hd H2 A) v t.toD → Q v H2
  | .exc x => ExP cl E H x
  | .bad => False
def BPost (E : XK) (H : Hp) (Q : Bool → Hp → Prop) : RB → Prop
  | .ok b => ∀ H2, Same H H2 → Q b H2
  | .exc x => ExP cl E H x
  | .bad => False
inductive RL where
  | ok (ds : List D) | exc (x : Xn) | bad
def APost (E : XK) (H : Hp) (A : List Addr) (Q : List V → Hp → Prop) : RL → Prop
  | .ok ds => ∀ vs H2, Same H H2 → RpA K cl (hd H2 A) vs ds → Q vs H2
  | .exc x => ExP cl E H x
  | .bad => False
/-- .. owned arguments -/
inductive RLT where
  | ok (ts : List T) | exc (x : Xn) | bad
def TPost (E : XK) (H : Hp) (A : List Addr) (Q : List V → Hp → Prop) : RLT → Prop
  | .ok ts => ∀ vs H2 F, Same H H2 → (∀ a ∈ F, H a = none) → F.Nodup → RTs K cl (hd H2 (A ++ F)) H2 vs ts F → Q vs H2
  | .exc x => ExP cl E H x
  | .bad => False
/-- slots and heap, A hidden -/
def StE (σ : L2.St) (H : Hp) (e : Env) (A1 : List Addr) : Prop := (∀ a ∈ A1, Ow (H a)) ∧ ∃ A, A.Nodup ∧ (∀ a ∈ A, a ∈ A1) ∧ RSl K cl (hd H A1) H σ e A

def SE (E : L2.St → XK) (te : TE) (m : ME) : Prop := ∀ σ H e A1, StE K cl σ H e A1 → ∀ Q, EPost K cl (E σ) H A1 Q (m e) → te σ H Q
def SB (E : L2.St → XK) (tt : TT) (m : MB) : Prop := ∀ σ H e A1, StE K cl σ H e A1 → ∀ Q, BPost cl (E σ) H Q (m e) → tt σ H Q
def SA (E : L2.St → XK) (ta : TA) (m : Env → RL) : Prop := ∀ σ H e A1, StE K cl σ H e A1 → ∀ Q, APost K cl (E σ) H A1 Q (m e) → ta σ H Q
def ST (E : L2.St → XK) (ta : TA) (m : Env → RLT) : Prop := ∀ σ H e A1, StE K cl σ H e A1 → ∀ Q, TPost K cl (E σ) H A1 Q (m e) → ta σ H Q
end

section
variable {K : PySem.W.Frag} {cl : Cl} {H H' H1 : Hp} {A A1 : List Addr} {Q : VK} {σ : L2.St} {e : Env} {E : L2.St → XK} {te ta tb : TE} {m ma mb : ME}
theorem OkP.up (s : Same H H1) {t : T} (h : OkP K cl H A Q t) : OkP K cl H1 A Q t := fun v H2 F s2 f nd r => h v H2 F (s.trans s2) (fun a ha => s.free (f a ha)) nd r
theorem ExP.up {E : XK} (s : Same H H1) {x : Xn} (h : ExP cl E H x) : ExP cl E H1 x := fun cv d H2 s2 r => h cv d H2 (s.trans s2) r
theorem EPost.up {E : XK} (s : Same H H1) {r : RE} (h : EPost K cl E H A Q r) : EPost K cl E H1 A Q r := by
  cases r with
  | ok t => exact OkP.up s h
  | exc x => exact ExP.up s h
  | bad => exact h
theorem StE.up (s : Same H H1) (h : StE K cl σ H e A1) : StE K cl σ H1 e A1 := by
  obtain ⟨o, A, nd, sub, r⟩ := h
  refine ⟨fun a ha => (o a ha).same s, A, nd, sub, r.mono (hd_same s fun a ha => .inl ha) fun b hb => ?_⟩
  cases q : H b with
  | none => exact absurd q (r.dom b hb)
  | some u => exact s b u q
/-- more is hidden that is new -/
theorem StE.more (s : Same H H1) {F : List Addr} (f : ∀ a ∈ F, H a = none) (o : ∀ a ∈ F, Ow (H1 a)) (h : StE K cl σ H e A1) : StE K cl σ H1 e (A1 ++ F) := by
  obtain ⟨o1, A, nd, sub, r⟩ := h
  refine ⟨fun a ha => (List.mem_append.mp ha).elim (fun z => (o1 a z).same s) (o a), A, nd, fun a ha => List.mem_append_left _ (sub a ha), r.mono (hd_same s fun a ha => (List.mem_append.mp ha).elim .inl fun z => .inr (f a z)) fun b hb => ?_⟩
  cases q : H b with
  | none => exact absurd q (r.dom b hb)
  | some u => exact s b u q
theorem OkP.rp {t : T} {v : V} {F : List Addr} {H2 : Hp} (s : Same H H2) (o : ∀ a ∈ A, Ow (H a)) (f : ∀ a ∈ F, H a = none) (r : RT K cl (hd H2 (A ++ F)) H2 v t F) : Rp K cl (hd H2 A) v t.toD := by
  refine r.freeze (hd_same (Same.refl _) fun a ha => .inl (List.mem_append_left _ ha)) fun b hb => hd_of fun z => ?_
  exact (o b z).ne (f b hb)
theorem SE.d (h : SE K cl E te m) (st : StE K cl σ H e A1) {Q : VK} (p : DPost K cl (E σ) H A1 Q (m e)) : te σ H Q := by
  refine h σ H e A1 st Q ?_
  cases q : m e with
  | ok t =>
    rw [q] at p
    exact fun v H2 F s f nd r => p v H2 s (OkP.rp s st.1 f r)
  | exc x => rw [q] at p; exact p
  | bad => rw [q] at p; exact p
/-- a value that is data at once -/
theorem OkP.pure {H : Hp} {A : List Addr} {Q : VK} {d : D} {v : V} (h : OkP K cl H A Q (.p d)) {H2 : Hp} (s : Same H H2) (r : Rp K cl (hd H2 A) v d) : Q v H2 :=
  h v H2 [] s (fun a ha => by simp at ha) List.nodup_nil (.p (by rw [List.append_nil]; exact r))
/-- .. a new list -/
theorem OkP.newL {H : Hp} {A : List Addr} {Q : VK} {ts : List T} {p : Addr} {vs : List V} {F : List Addr} {H2 : Hp} (h : OkP K cl H A Q (.l ts)) (s : Same H H2) (f : ∀ a ∈ F, H a = none) (nd : F.Nodup) (hp : H2 p = none)
    (r : RTs K cl (hd H2 (A ++ F)) H2 vs ts F) : Q (.ref p) (upd H2 p (.lst vs)) := by
  have hpF : p ∉ F := fun z => (r.ow p z).ne hp
  have s2 : Same H2 (upd H2 p (.lst vs)) := same_upd hp
  refine h _ _ (p :: F) (s.trans s2) (fun a ha => ?_) (List.nodup_cons.mpr ⟨hpF, nd⟩) (.l upd_same ?_)
  · rcases List.mem_cons.mp ha with rfl | ha
    · exact s.free hp
    · exact f a ha
  · refine r.mono (hd_same s2 fun a ha => ?_) fun b hb => upd_ne fun z => hpF (z ▸ hb)
    rcases List.mem_append.mp ha with z | z
    · exact .inl (List.mem_append_left _ z)
    · rcases List.mem_cons.mp z with rfl | z
      · exact .inr hp
      · exact .inl (List.mem_append_right _ z)
theorem rts_pure {G H : Hp} : ∀ {vs : List V} {ds : List D}, RpA K cl G vs ds → RTs K cl G H vs (ds.map T.p) []
  | _, _, .nil => .nil
  | _, _, .cons h1 h2 => by
    have q := RTs.cons (H := H) (.p h1) (rts_pure h2)
    exact q
/-- a new list of data -/
theorem OkP.newLp {H : Hp} {A : List Addr} {Q : VK} {ds : List D} {p : Addr} {vs : List V} {H2 : Hp} (h : OkP K cl H A Q (.l (ds.map T.p))) (s : Same H H2) (hp : H2 p = none)
    (r : RpA K cl (hd H2 A) vs ds) : Q (.ref p) (upd H2 p (.lst vs)) :=
  h.newL s (F := []) (fun a ha => by simp at ha) List.nodup_nil hp (by rw [List.append_nil]; exact rts_pure r)
end

/-! ### judgements: over a family of contexts -/
section
variable {ι : Type} (K : PySem.W.Frag) (cl : Cl) (E : L2.St → XK) (X : ι → Cx)
def JE (e : Expr) (m : ME) : Prop := (∀ ξ, (X ξ).K = K) ∧ ∃ te, (∀ ξ, PE (X ξ) e te) ∧ SE K cl E te m
def JB (e : Expr) (m : MB) : Prop := (∀ ξ, (X ξ).K = K) ∧ ∃ tt, (∀ ξ, PT (X ξ) e tt) ∧ SB K cl E tt m
def JA (es : List Expr) (m : Env → RL) : Prop := (∀ ξ, (X ξ).K = K) ∧ ∃ ta, (∀ ξ, PA (X ξ) es ta) ∧ SA K cl E ta m
def JT (es : List Expr) (m : Env → RLT) : Prop := (∀ ξ, (X ξ).K = K) ∧ ∃ ta, (∀ ξ, PA (X ξ) es ta) ∧ ST K cl E ta m
end

/-! ### names, constants -/
def mV (i : Nat) : ME := fun e => match e[i]? with
  | some (some (.p d)) => .ok (.p d)
  | _ => .bad
def mC (d : D) : ME := fun _ => .ok (.p d)
section
variable {K : PySem.W.Frag} {cl : Cl} {E : L2.St → XK} {ι : Type} {X : ι → Cx} {a b : Expr} {ma mb : ME} {pos : Pos}
theorem se_var {K : PySem.W.Frag} (i : Nat) : SE K cl E (tVar i) (mV i) := fun σ H e A1 st Q p => by
  unfold mV at p
  cases q : e[i]? with
  | none => rw [q] at p; exact p.elim
  | some o =>
    cases o with
    | none => rw [q] at p; exact p.elim
    | some t =>
      rw [q] at p
      cases t with
      | l ts => exact p.elim
      | k ks ts => exact p.elim
      | i C ks ts tg => exact p.elim
      | p d =>
        obtain ⟨_, A, _, _, r⟩ := st
        obtain ⟨v, F, h1, h2, _⟩ := r.get q
        cases h2 with
        | p h2 => exact ⟨v, h1, OkP.pure p (Same.refl _) h2⟩
theorem je_v (hK : ∀ ξ, (X ξ).K = K) (i : Nat) {x : Str} (h : ∀ ξ, PE (X ξ) (.Name x pos) (tVar i)) : JE K cl E X (.Name x pos) (mV i) := ⟨hK, _, fun ξ => (h ξ), se_var i⟩
theorem se_c {K : PySem.W.Frag} {v : V} {d : D} (h : ∀ H, Rp K cl H v d) : SE K cl E (tC v) (mC d) := fun σ H e A1 st Q p => OkP.pure p (Same.refl _) (h _)
theorem je_int (hK : ∀ ξ, (X ξ).K = K) {i j} : JE K cl E X (.Constant (.int i) j pos) (mC (.int i)) := ⟨hK, _, fun ξ => pe_int, se_c fun _ => .int i⟩
theorem je_bl (hK : ∀ ξ, (X ξ).K = K) {i j} : JE K cl E X (.Constant (.bool i) j pos) (mC (.bl i)) := ⟨hK, _, fun ξ => pe_bl, se_c fun _ => .bl i⟩
theorem je_non (hK : ∀ ξ, (X ξ).K = K) {j} : JE K cl E X (.Constant .none j pos) (mC .non) := ⟨hK, _, fun ξ => pe_non, se_c fun _ => .non⟩
theorem je_str (hK : ∀ ξ, (X ξ).K = K) {x j} : JE K cl E X (.Constant (.str x) j pos) (mC (.str x)) := ⟨hK, _, fun ξ => pe_str, se_c fun _ => .str x⟩
/-- a module's constant number -/
theorem je_gint (hK : ∀ ξ, (X ξ).K = K) {x : Str} {i : Int} {u : Tok} (hg : ∀ ξ, Gl (X ξ) x) (hm : ∀ ξ, (X ξ).mg x = some (.int i u)) (hd : (x == ("__debug__" : Str)) = false := by decide) : JE K cl E X (.Name x pos) (mC (.int i)) :=
  ⟨hK, _, fun ξ => pe_glob (hg ξ) (hm ξ) (v := .int i) ⟨_, rfl⟩ hd, se_c fun _ => .int i⟩

/-! ### operators -/
def OpSem (K : PySem.W.Frag) (cl : Cl) (r : R2) (f : D → D → Option T) : Prop := ∀ (H : Hp) (A : List Addr), (∀ a ∈ A, Ow (H a)) → ∀ x y dx dy t, Rp K cl (hd H A) x dx → Rp K cl (hd H A) y dy → f dx dy = some t → ∀ Q, OkP K cl H A Q t → r x y H Q
def mB (f : D → D → Option T) (ma mb : ME) : ME := fun e => match ma e with
  | .ok a => (match mb e with
    | .ok b => (match f a.toD b.toD with
      | some t => .ok t
      | none => .bad)
    | r => r)
  | r => r
theorem se_op {K : PySem.W.Frag} {r : R2} {f : D → D → Option T} {ta tb : TE} (ho : OpSem K cl r f) (ha : SE K cl E ta ma) (hb : SE K cl E tb mb) : SE K cl E (tOp r ta tb) (mB f ma mb) := fun σ H e A1 st Q p => by
  refine ha.d st (Q := fun x H1 => tb σ H1 fun y H2 => r x y H2 Q) ?_
  unfold mB at p
  cases q : ma e with
  | bad => rw [q] at p; exact p
  | exc x => rw [q] at p; exact p
  | ok ta' =>
    rw [q] at p
    intro v H1 s1 r1
    refine hb.d (st.up s1) ?_
    cases q2 : mb e with
    | bad => rw [q2] at p; exact p
    | exc x => rw [q2] at p; exact ExP.up s1 p
    | ok tb' =>
      rw [q2] at p
      intro u H2 s2 r2
      cases q3 : f ta'.toD tb'.toD with
      | none => simp only [q3] at p; exact p.elim
      | some t =>
        simp only [q3] at p
        exact ho H2 A1 (fun a ha => ((st.1 a ha).same s1).same s2) v u _ _ t (r1.mono (hd_same s2 fun a ha => .inl ha)) r2 q3 Q (OkP.up (s1.trans s2) p)
theorem je_bin {op : Operator} {r : R2} {f : D → D → Option T} (ho : ∀ ξ, OpR (X ξ) (binaryOp op) r) (hs : OpSem K cl r f) (ha : JE K cl E X a ma) (hb : JE K cl E X b mb) : JE K cl E X (.BinOp a op b pos) (mB f ma mb) := by
  obtain ⟨hKha, ta, pa, sa⟩ := ha
  obtain ⟨hKhb, tb, pb, sb⟩ := hb
  exact ⟨hKha, _, fun ξ => pe_op (ho ξ) (pa ξ) (pb ξ), se_op hs sa sb⟩
theorem je_cmp {op : CmpOp} {r : R2} {f : D → D → Option T} (ho : ∀ ξ, OpR (X ξ) (compareOp op) r) (hs : OpSem K cl r f) (ha : JE K cl E X a ma) (hb : JE K cl E X b mb) (hm : behindInMarks op b = false) : JE K cl E X (.Compare a [op] [b] pos) (mB f ma mb) := by
  obtain ⟨hKha, ta, pa, sa⟩ := ha
  obtain ⟨hKhb, tb, pb, sb⟩ := hb
  exact ⟨hKha, _, fun ξ => pe_cmpR (ho ξ) (pa ξ) (pb ξ) hm, se_op hs sa sb⟩
/-- a value's truth: True or False alone -/
def asB (m : ME) : MB := fun e => match m e with
  | .ok (.p (.bl b)) => .ok b
  | .exc x => .exc x
  | _ => .bad
theorem sb_test {K : PySem.W.Frag} {te : TE} {m : ME} (h : SE K cl E te m) : SB K cl E (tTest te) (asB m) := fun σ H e A1 st Q p => by
  refine h.d st ?_
  unfold asB at p
  cases q : m e with
  | bad => rw [q] at p; exact p
  | exc x => rw [q] at p; exact p
  | ok t =>
    rw [q] at p
    cases t with
    | l ts => exact p.elim
    | k ks ts => exact p.elim
    | i C ks ts tg => exact p.elim
    | p d =>
      cases d with
      | bl b =>
        intro v H2 s r
        cases r
        exact ⟨b, rfl, p H2 s⟩
      | _ => exact p.elim
theorem jb_cmp {op : CmpOp} {r : R2} {f : D → D → Option T} (ho : ∀ ξ, OpR (X ξ) (compareOp op) r) (hs : OpSem K cl r f) (ha : JE K cl E X a ma) (hb : JE K cl E X b mb) (hm : behindInMarks op b = false) : JB K cl E X (.Compare a [op] [b] pos) (asB (mB f ma mb)) := by
  obtain ⟨hKha, ta, pa, sa⟩ := ha
  obtain ⟨hKhb, tb, pb, sb⟩ := hb
  exact ⟨hKha, _, fun ξ => pt_cmpR (ho ξ) (pa ξ) (pb ξ) hm, sb_test (se_op hs sa sb)⟩
/-- chains a < b < c -/
def mCh (f g : D → D → Option T) (ma mb mc : ME) : ME := fun e => match ma e with
  | .ok a => (match mb e with
    | .ok b => (match f a.toD b.toD with
      | some (.p (.bl true)) => (match mc e with
        | .ok c => (match g b.toD c.toD with
          | some t => .ok t
          | none => .bad)
        | r => r)
      | some (.p (.bl false)) => .ok (.p (.bl false))
      | _ => .bad)
    | r => r)
  | r => r
end
end Nd

namespace Nd
open PySem PySem.Spec PyProof.Rows L2

/-! ### list + list, whatever keeps them -/
def rCatQ (K : PySem.W.Frag) : R2 := fun x y H Q => ∃ l b xs zs, x = .ref l ∧ y = .ref b ∧ SqL K H l xs ∧ SqL K H b zs ∧ xs.length + zs.length ≤ sizeLine ∧ ∀ p, H p = none → Q (.ref p) (upd H p (.lst (xs ++ zs)))
theorem op_catQ {X : Cx} : OpR X (binaryOp .Add) (rCatQ X.K) := by
  intro pins s σ H x y v u Q I rx ry h
  obtain ⟨l, b, xs, zs, rfl, rfl, hH, hB, hz, q⟩ := h
  cases rx
  cases ry
  obtain ⟨its, r, p1, _⟩ := I.list hH
  obtain ⟨its2, r2, p2, _⟩ := I.list hB
  obtain ⟨⟨cls, dd, data, sl⟩, ho, hc, n, hd⟩ := p1.isList
  obtain ⟨⟨cls2, dd2, data2, sl2⟩, ho2, hc2, n2, hd2⟩ := p2.isList
  simp only at hc hd hc2 hd2
  subst hc hd hc2 hd2
  have hl := r.length
  have hl2 := r2.length
  have ea : its.toArray ++ its2.toArray = (its ++ its2).toArray := by simp
  refine concat_meets ⟨_, ho, rfl⟩ ⟨_, ho2, rfl⟩ noFill_list_add seq_list_add PySem.F.slot_list_add PySem.F.entry_list_add (PySem.F.args_list_add_2 _ _) (list_addW l b its.toArray its2.toArray n n2 dd dd2 sl sl2 (by rw [List.size_toArray, List.size_toArray]; omega)) ⟨ho, ho2, ?_⟩
  rw [ea]
  exact ⟨.ref _, _, I.lnew (t' := s.toks) (r.append r2) (by rw [List.length_append]; omega), rfl, q _ I.fresh⟩

section
variable {K : PySem.W.Frag} {cl : Cl}
theorem sqL_hid {H : Hp} {A : List Addr} {a : Addr} {xs : List V} (h : SqL K (hd H A) a xs) : SqL K H a xs := hd_le.seq h
theorem sqT_hid {H : Hp} {A : List Addr} {a : Addr} {xs : List V} (h : SqT K (hd H A) a xs) : SqT K H a xs := sqT_same hd_le h
theorem same_at {H : Hp} {p : Addr} {o : HO} (h : H p = none) {A : List Addr} : Same (hd H A) (hd (upd H p o) A) := hd_same (same_upd h) fun a ha => .inl ha
/-- a new tuple of data -/
theorem OkP.newT {H : Hp} {A : List Addr} {Q : VK} {ds : List D} {p : Addr} {vs : List V} {H2 : Hp} (h : OkP K cl H A Q (.p (.tup ds))) (s : Same H H2) (o : ∀ a ∈ A, Ow (H a)) (hp : H2 p = none)
    (r : RpA K cl (hd H2 A) vs ds) : Q (.ref p) (upd H2 p (.tup vs)) := by
  have hpA : p ∉ A := fun z => ((o p z).same s).ne hp
  refine OkP.pure h (s.trans (same_upd hp)) (.tup (.inl (.inl ?_)) (r.mono (same_at hp)))
  rw [hd_of hpA, upd_same]

/-! ### + -/
def dAdd : D → D → Option T
  | .int i, .int j => some (.p (.int (i + j)))
  | .str x, .str y => if x.length + y.length ≤ sizeLine then some (.p (.str (x ++ y))) else none
  | .lst xs, .lst ys => if xs.length + ys.length ≤ sizeLine then some (.l ((xs ++ ys).map T.p)) else none
  | .tup xs, .tup ys => if xs.length + ys.length ≤ sizeLine then some (.p (.tup (xs ++ ys))) else none
  | _, _ => none
abbrev rAddI : R2 := rI0 fun i j => .int (i + j)
abbrev rAddS : R2 := fun x y H Q => ∃ i j, x = .str i ∧ y = .str j ∧ i.length + j.length ≤ sizeLine ∧ Q (.str (i ++ j)) H
abbrev rAdd (K : PySem.W.Frag) : R2 := fun x y H Q => rAddI x y H Q ∨ (rAddS x y H Q ∨ (rCatQ K x y H Q ∨ rCatA K x y H Q))
theorem op_addU {X : Cx} : OpR X (binaryOp .Add) (rAdd X.K) := op_add.or (op_add_str.or (op_catQ.or op_catA))
theorem rpA_nil {H : Hp} {vs : List V} {ds : List D} (h : RpA K cl H vs ds) : vs = [] ↔ ds = [] := by
  cases h <;> simp
theorem sem_add : OpSem K cl (rAdd K) dAdd := by
  intro H A o x y dx dy t rx ry e Q k
  cases rx with
  | int i =>
    cases ry with
    | int j => cases e; exact .inl ⟨i, j, rfl, rfl, OkP.pure k (Same.refl _) (.int _)⟩
    | _ => cases e
  | str i =>
    cases ry with
    | str j =>
      simp only [dAdd] at e
      split at e
      · rename_i hl; cases e; exact .inr (.inl ⟨i, j, rfl, rfl, hl, OkP.pure k (Same.refl _) (.str _)⟩)
      · cases e
    | _ => cases e
  | lst h1 h2 =>
    cases ry with
    | lst h3 h4 =>
      simp only [dAdd] at e
      split at e
      · rename_i hl
        cases e
        refine .inr (.inr (.inl ⟨_, _, _, _, rfl, rfl, (sqL_hid h1), (sqL_hid h3), by rw [h2.length, h4.length]; exact hl, fun p hp => ?_⟩))
        exact k.newLp (Same.refl _) hp (h2.append h4)
      · cases e
    | _ => cases e
  | tup h1 h2 =>
    cases ry with
    | tup h3 h4 =>
      simp only [dAdd] at e
      split at e
      · rename_i hl
        cases e
        refine .inr (.inr (.inr ⟨_, _, _, _, rfl, rfl, (sqT_hid h1), (sqT_hid h3), by rw [h2.length, h4.length]; exact hl, fun z => ?_, fun _ z => ?_, fun _ _ p hp => ?_⟩))
        · have z' := (rpA_nil h2).mp z
          subst z'
          exact OkP.pure k (Same.refl _) (.tup h3 h4)
        · have z' := (rpA_nil h4).mp z
          subst z'
          rw [List.append_nil] at k
          exact OkP.pure k (Same.refl _) (.tup h1 h2)
        · exact k.newT (Same.refl _) o hp (h2.append h4)
      · cases e
    | _ => cases e
  | _ => cases e

/-! ### numbers -/
def dII (C : Int → Int → Bool) (g : Int → Int → Int) : D → D → Option T
  | .int i, .int j => if C i j = true then some (.p (.int (g i j))) else none
  | _, _ => none
theorem sem_ii {C' : Int → Int → Prop} {C : Int → Int → Bool} {g : Int → Int → Int} (hC : ∀ i j, C i j = true → C' i j) : OpSem K cl (rI C' fun i j => .int (g i j)) (dII C g) := by
  intro H A o x y dx dy t rx ry e Q k
  cases rx with
  | int i =>
    cases ry with
    | int j =>
      simp only [dII] at e
      split at e
      · rename_i hc; cases e; exact ⟨i, j, rfl, rfl, hC i j hc, OkP.pure k (Same.refl _) (.int _)⟩
      · cases e
    | _ => cases e
  | _ => cases e
def dSub : D → D → Option T
  | .int i, .int j => some (.p (.int (i - j)))
  | _, _ => none
theorem sem_sub : OpSem K cl (rI0 fun i j => .int (i - j)) dSub := by
  intro H A o x y dx dy t rx ry e Q k
  cases rx with
  | int i =>
    cases ry with
    | int j => cases e; exact ⟨i, j, rfl, rfl, OkP.pure k (Same.refl _) (.int _)⟩
    | _ => cases e
  | _ => cases e
def cMul (i j : Int) : Bool := (decide (-(2 ^ 64) < i) && decide (i < 2 ^ 64)) || (decide (-(2 ^ 64) < j) && decide (j < 2 ^ 64))
def dMul := dII cMul fun i j => i * j
theorem sem_mul : OpSem K cl (rI CMul fun i j => .int (i * j)) dMul := sem_ii fun i j h => by
  unfold cMul at h
  rcases Bool.or_eq_true_iff.mp h with h | h
  · obtain ⟨a, b⟩ := Bool.and_eq_true_iff.mp h
    exact .inl ⟨of_decide_eq_true a, of_decide_eq_true b⟩
  · obtain ⟨a, b⟩ := Bool.and_eq_true_iff.mp h
    exact .inr ⟨of_decide_eq_true a, of_decide_eq_true b⟩
def dMod := dII (fun _ j => decide (0 < j)) fun i j => i % j
theorem sem_mod : OpSem K cl (rI (fun _ j => 0 < j) fun i j => .int (i % j)) dMod := sem_ii fun i j h => of_decide_eq_true h
def dFdiv := dII (fun _ j => decide (0 < j) && decide (j < 1073741824)) fun i j => i / j
theorem sem_fdiv : OpSem K cl (rI CDiv fun i j => .int (i / j)) dFdiv := sem_ii fun i j h => by
  obtain ⟨a, b⟩ := Bool.and_eq_true_iff.mp h
  exact ⟨of_decide_eq_true a, of_decide_eq_true b⟩
def dPow := dII (fun i j => decide (0 ≤ j) && (decide (j ≤ 1000000) && decide (i.natAbs < 2 ^ 64))) fun i j => i ^ j.toNat
theorem sem_pow : OpSem K cl (rI CPow fun i j => .int (i ^ j.toNat)) dPow := sem_ii fun i j h => by
  obtain ⟨a, b⟩ := Bool.and_eq_true_iff.mp h
  obtain ⟨b, c⟩ := Bool.and_eq_true_iff.mp b
  exact ⟨of_decide_eq_true a, of_decide_eq_true b, of_decide_eq_true c⟩
/-- order: of whole numbers, of texts -/
def dCmp (g : Int → Int → Bool) (l : Str → Str → Bool) : D → D → Option T
  | .int i, .int j => some (.p (.bl (g i j)))
  | .str x, .str y => some (.p (.bl (l x y)))
  | _, _ => none
abbrev rCmp (g : Int → Int → Bool) (l : Str → Str → Bool) : R2 := fun x y H Q => rI0 (fun i j => .bl (g i j)) x y H Q ∨ ∃ i j, x = .str i ∧ y = .str j ∧ Q (.bl (l i j)) H
theorem sem_cmp {g : Int → Int → Bool} {l : Str → Str → Bool} : OpSem K cl (rCmp g l) (dCmp g l) := by
  intro H A o x y dx dy t rx ry e Q k
  cases rx with
  | int i =>
    cases ry with
    | int j => cases e; exact .inl ⟨i, j, rfl, rfl, OkP.pure k (Same.refl _) (.bl _)⟩
    | _ => cases e
  | str i =>
    cases ry with
    | str j => cases e; exact .inr ⟨i, j, rfl, rfl, OkP.pure k (Same.refl _) (.bl _)⟩
    | _ => cases e
  | _ => cases e
/-- texts: one stands ahead of the other -/
def sLt (x y : Str) : Bool := decide (x.cps.toList < y.cps.toList)
abbrev dLt := dCmp (fun i j => decide (i < j)) fun x y => sLt x y
abbrev dLe := dCmp (fun i j => decide (i ≤ j)) fun x y => !sLt y x
abbrev dGt := dCmp (fun i j => decide (j < i)) fun x y => sLt y x
abbrev dGe := dCmp (fun i j => decide (j ≤ i)) fun x y => !sLt x y

/-! ### == of data -/
mutual
def D.toP : D → Option PyData
  | .non => some .none
  | .bl b => some (.bool b)
  | .int i => some (.int i)
  | .str x => some (.str x)
  | .lst xs => (D.toPs xs).map .list
  | .tup xs => (D.toPs xs).map .tuple
  | .dk _ _ => none
  | .ins _ _ _ => none
  | .ty _ => none
  | .cls _ => none
  | .ex _ _ _ => none
def D.toPs : List D → Option (List PyData)
  | [] => some []
  | d :: ds => match D.toP d, D.toPs ds with
    | some p, some ps => some (p :: ps)
    | _, _ => none
end
mutual
theorem dp_of {H : Hp} {v : V} {d : D} {p : PyData} (h : Rp K cl H v d) (e : d.toP = some p) : Dp K H v p := by
  cases h with
  | non => simp only [D.toP] at e; cases e; exact .non
  | bl b => simp only [D.toP] at e; cases e; exact .bl b
  | int i => simp only [D.toP] at e; cases e; exact .int i
  | str x => simp only [D.toP] at e; cases e; exact .str x
  | lst h1 h2 =>
    simp only [D.toP] at e
    obtain ⟨ps, e1, rfl⟩ := Option.map_eq_some_iff.mp e
    exact .lst h1 (dpA_of h2 e1)
  | tup h1 h2 =>
    simp only [D.toP] at e
    obtain ⟨ps, e1, rfl⟩ := Option.map_eq_some_iff.mp e
    exact .tup h1 (dpA_of h2 e1)
  | dk h1 h2 h3 => simp only [D.toP] at e; cases e
  | ins h1 h2 h3 => simp only [D.toP] at e; cases e
  | ty n => simp only [D.toP] at e; cases e
  | cls C => simp only [D.toP] at e; cases e
  | ex _ => simp only [D.toP] at e; cases e
theorem dpA_of {H : Hp} {vs : List V} {ds : List D} {ps : List PyData} (h : RpA K cl H vs ds) (e : D.toPs ds = some ps) : DpAll K H vs ps := by
  cases h with
  | nil => simp only [D.toPs] at e; cases e; exact .nil
  | cons h1 h2 =>
    simp only [D.toPs] at e
    split at e
    · rename_i p ps' e1 e2
      cases e
      exact .cons (dp_of h1 e1) (dpA_of h2 e2)
    · cases e
end
def dEqB (x y : D) : Option Bool := match x.toP, y.toP with
  | some p, some q => if SeqAt.shaped p = true ∧ SeqAt.shaped q = true then some (PyData.eqv p q) else none
  | _, _ => none
def dEq (x y : D) : Option T := (dEqB x y).map fun b => .p (.bl b)
def dNe (x y : D) : Option T := (dEqB x y).map fun b => .p (.bl (!b))
theorem dEqB_some {x y : D} {b : Bool} (e : dEqB x y = some b) : ∃ p q, x.toP = some p ∧ y.toP = some q ∧ SeqAt.shaped p = true ∧ SeqAt.shaped q = true ∧ b = PyData.eqv p q := by
  unfold dEqB at e
  split at e
  · rename_i p q e1 e2
    split at e
    · rename_i h; cases e; exact ⟨p, q, e1, e2, h.1, h.2, rfl⟩
    · cases e
  · cases e
theorem sem_eq : OpSem K cl (rEqD K) dEq := by
  intro H A o x y dx dy t rx ry e Q k
  obtain ⟨b, e1, rfl⟩ := Option.map_eq_some_iff.mp e
  obtain ⟨p, q, h1, h2, h3, h4, rfl⟩ := dEqB_some e1
  exact ⟨p, q, dp_of (rx.mono hd_le) h1, dp_of (ry.mono hd_le) h2, h3, h4, OkP.pure k (Same.refl _) (.bl _)⟩
theorem sem_ne : OpSem K cl (rNeD K) dNe := by
  intro H A o x y dx dy t rx ry e Q k
  obtain ⟨b, e1, rfl⟩ := Option.map_eq_some_iff.mp e
  obtain ⟨p, q, h1, h2, h3, h4, rfl⟩ := dEqB_some e1
  exact ⟨p, q, dp_of (rx.mono hd_le) h1, dp_of (ry.mono hd_le) h2, h3, h4, OkP.pure k (Same.refl _) (.bl _)⟩

/-! ### is None, is True -/
def D.isN : D → Bool
  | .non => true
  | _ => false
def D.isB (k : Bool) : D → Option Bool
  | .bl b => some (b == k)
  | _ => none
theorem Rp.isN {H : Hp} {v : V} {d : D} (h : Rp K cl H v d) : decide (v = .non) = d.isN := by cases h <;> simp [D.isN]
def dIs : D → D → Option T
  | d, .non => some (.p (.bl d.isN))
  | .bl b, .bl k => some (.p (.bl (b == k)))
  | _, _ => none
def dIsNot : D → D → Option T
  | d, .non => some (.p (.bl (!d.isN)))
  | .bl b, .bl k => some (.p (.bl (!(b == k))))
  | _, _ => none
abbrev rIsU : R2 := fun x y H Q => (y = .non ∧ Q (.bl (decide (x = .non))) H) ∨ rIsB x y H Q
abbrev rIsNotU : R2 := fun x y H Q => (y = .non ∧ Q (.bl (!decide (x = .non))) H) ∨ rNotB x y H Q
theorem op_isU {X : Cx} : OpR X (compareOp .Is) rIsU := op_isN.or op_isBl
theorem op_isnotU {X : Cx} : OpR X (compareOp .IsNot) rIsNotU := op_notN.or op_notBl
theorem sem_is : OpSem K cl rIsU dIs := by
  intro H A o x y dx dy t rx ry e Q k
  cases ry with
  | non =>
    simp only [dIs] at e
    cases e
    exact .inl ⟨rfl, by rw [rx.isN]; exact OkP.pure k (Same.refl _) (.bl _)⟩
  | bl b =>
    cases rx with
    | bl a => simp only [dIs] at e; cases e; exact .inr ⟨a, b, rfl, rfl, OkP.pure k (Same.refl _) (by rw [show decide (a = b) = (a == b) by cases a <;> cases b <;> rfl]; exact .bl _)⟩
    | _ => simp only [dIs] at e; cases e
  | _ => cases rx <;> (simp only [dIs] at e; cases e)
theorem sem_isnot : OpSem K cl rIsNotU dIsNot := by
  intro H A o x y dx dy t rx ry e Q k
  cases ry with
  | non =>
    simp only [dIsNot] at e
    cases e
    exact .inl ⟨rfl, by rw [rx.isN]; exact OkP.pure k (Same.refl _) (.bl _)⟩
  | bl b =>
    cases rx with
    | bl a => simp only [dIsNot] at e; cases e; exact .inr ⟨a, b, rfl, rfl, OkP.pure k (Same.refl _) (by rw [show decide (a = b) = (a == b) by cases a <;> cases b <;> rfl]; exact .bl _)⟩
    | _ => simp only [dIsNot] at e; cases e
  | _ => cases rx <;> (simp only [dIsNot] at e; cases e)

/-! ### subscripts -/
def dIx : D → D → Option T
  | .lst xs, .int i => (atI xs i).map T.p
  | .tup xs, .int i => (atI xs i).map T.p
  | .str x, .int i => if x.length ≤ sizeLine then (atI x.cps.toList i).map fun c => .p (.str ⟨#[c]⟩) else none
  | _, _ => none
theorem RpA.atI {H : Hp} {vs : List V} {ds : List D} (h : RpA K cl H vs ds) {i : Int} {d : D} (e : L2.atI ds i = some d) : ∃ v, L2.atI vs i = some v ∧ Rp K cl H v d := by
  unfold L2.atI at e ⊢
  rw [h.length]
  cases q : ixN ds.length i with
  | none => rw [q] at e; cases e
  | some j =>
    rw [q] at e
    obtain ⟨v, h1, h2⟩ := h.get (i := j) e
    exact ⟨v, h1, h2⟩
theorem sem_ix : OpSem K cl (rIx K) dIx := by
  intro H A o x y dx dy t rx ry e Q k
  cases ry with
  | int i =>
    cases rx with
    | lst h1 h2 =>
      simp only [dIx] at e
      obtain ⟨d, e1, rfl⟩ := Option.map_eq_some_iff.mp e
      obtain ⟨v, q1, q2⟩ := h2.atI e1
      exact .inl ⟨_, _, _, v, rfl, rfl, (sqL_hid h1), q1, OkP.pure k (Same.refl _) q2⟩
    | tup h1 h2 =>
      simp only [dIx] at e
      obtain ⟨d, e1, rfl⟩ := Option.map_eq_some_iff.mp e
      obtain ⟨v, q1, q2⟩ := h2.atI e1
      exact .inr (.inl ⟨_, _, _, v, rfl, rfl, (sqT_hid h1), q1, OkP.pure k (Same.refl _) q2⟩)
    | str z =>
      simp only [dIx] at e
      split at e
      · rename_i hl
        obtain ⟨c, e1, rfl⟩ := Option.map_eq_some_iff.mp e
        exact .inr (.inr ⟨z, i, c, rfl, rfl, hl, e1, OkP.pure k (Same.refl _) (.str _)⟩)
      · cases e
    | _ => simp only [dIx] at e; cases e
  | _ => cases rx <;> (simp only [dIx] at e; cases e)
end

section
variable {K : PySem.W.Frag} {cl : Cl} {E : L2.St → XK} {ι : Type} {X : ι → Cx} {a b : Expr} {ma mb : ME} {pos : Pos}
theorem je_add (ha : JE K cl E X a ma) (hb : JE K cl E X b mb) : JE K cl E X (.BinOp a .Add b pos) (mB dAdd ma mb) := je_bin (fun ξ => by rw [← ha.1 ξ]; exact op_addU) sem_add ha hb
theorem je_sub (ha : JE K cl E X a ma) (hb : JE K cl E X b mb) : JE K cl E X (.BinOp a .Sub b pos) (mB dSub ma mb) := je_bin (fun _ => op_sub) sem_sub ha hb
theorem je_mul (ha : JE K cl E X a ma) (hb : JE K cl E X b mb) : JE K cl E X (.BinOp a .Mult b pos) (mB dMul ma mb) := je_bin (fun _ => op_mul) sem_mul ha hb
theorem je_mod (ha : JE K cl E X a ma) (hb : JE K cl E X b mb) : JE K cl E X (.BinOp a .Mod b pos) (mB dMod ma mb) := je_bin (fun _ => op_mod) sem_mod ha hb
theorem je_fdiv (ha : JE K cl E X a ma) (hb : JE K cl E X b mb) : JE K cl E X (.BinOp a .FloorDiv b pos) (mB dFdiv ma mb) := je_bin (fun _ => op_fdiv) sem_fdiv ha hb
theorem je_pow (ha : JE K cl E X a ma) (hb : JE K cl E X b mb) : JE K cl E X (.BinOp a .Pow b pos) (mB dPow ma mb) := je_bin (fun _ => op_pow) sem_pow ha hb
theorem je_ix (ha : JE K cl E X a ma) (hb : JE K cl E X b mb) (hs : PlainIx b) : JE K cl E X (.Subscript a b pos) (mB dIx ma mb) := by
  obtain ⟨hK, ta, pa, sa⟩ := ha
  obtain ⟨_, tb, pb, sb⟩ := hb
  exact ⟨hK, _, fun ξ => pe_ix (by rw [← hK ξ]; exact ix_seq) (pa ξ) (pb ξ) hs, se_op sem_ix sa sb⟩
/-! comparisons: as values, as tests -/
theorem je_lt (ha : JE K cl E X a ma) (hb : JE K cl E X b mb) : JE K cl E X (.Compare a [.Lt] [b] pos) (mB dLt ma mb) := je_cmp (fun _ => op_lt.or op_lt_str) sem_cmp ha hb (nomark _)
theorem je_le (ha : JE K cl E X a ma) (hb : JE K cl E X b mb) : JE K cl E X (.Compare a [.LtE] [b] pos) (mB dLe ma mb) := je_cmp (fun _ => op_le.or op_le_str) sem_cmp ha hb (nomark _)
theorem je_gt (ha : JE K cl E X a ma) (hb : JE K cl E X b mb) : JE K cl E X (.Compare a [.Gt] [b] pos) (mB dGt ma mb) := je_cmp (fun _ => op_gt.or op_gt_str) sem_cmp ha hb (nomark _)
theorem je_ge (ha : JE K cl E X a ma) (hb : JE K cl E X b mb) : JE K cl E X (.Compare a [.GtE] [b] pos) (mB dGe ma mb) := je_cmp (fun _ => op_ge.or op_ge_str) sem_cmp ha hb (nomark _)
theorem je_eq {k : Nat} (hr : ∀ ξ, Room k (X ξ).A) (ha : JE K cl E X a ma) (hb : JE K cl E X b mb) : JE K cl E X (.Compare a [.Eq] [b] pos) (mB dEq ma mb) := je_cmp (fun ξ => by rw [← ha.1 ξ]; exact op_eqD (hr ξ).units) sem_eq ha hb (nomark _)
theorem je_ne {k : Nat} (hr : ∀ ξ, Room k (X ξ).A) (ha : JE K cl E X a ma) (hb : JE K cl E X b mb) : JE K cl E X (.Compare a [.NotEq] [b] pos) (mB dNe ma mb) := je_cmp (fun ξ => by rw [← ha.1 ξ]; exact op_neD (hr ξ).units) sem_ne ha hb (nomark _)
theorem je_is (ha : JE K cl E X a ma) (hb : JE K cl E X b mb) : JE K cl E X (.Compare a [.Is] [b] pos) (mB dIs ma mb) := je_cmp (fun _ => op_isU) sem_is ha hb (nomark _)
theorem je_isnot (ha : JE K cl E X a ma) (hb : JE K cl E X b mb) : JE K cl E X (.Compare a [.IsNot] [b] pos) (mB dIsNot ma mb) := je_cmp (fun _ => op_isnotU) sem_isnot ha hb (nomark _)
theorem jb_lt (ha : JE K cl E X a ma) (hb : JE K cl E X b mb) : JB K cl E X (.Compare a [.Lt] [b] pos) (asB (mB dLt ma mb)) := jb_cmp (fun _ => op_lt.or op_lt_str) sem_cmp ha hb (nomark _)
theorem jb_le (ha : JE K cl E X a ma) (hb : JE K cl E X b mb) : JB K cl E X (.Compare a [.LtE] [b] pos) (asB (mB dLe ma mb)) := jb_cmp (fun _ => op_le.or op_le_str) sem_cmp ha hb (nomark _)
theorem jb_gt (ha : JE K cl E X a ma) (hb : JE K cl E X b mb) : JB K cl E X (.Compare a [.Gt] [b] pos) (asB (mB dGt ma mb)) := jb_cmp (fun _ => op_gt.or op_gt_str) sem_cmp ha hb (nomark _)
theorem jb_ge (ha : JE K cl E X a ma) (hb : JE K cl E X b mb) : JB K cl E X (.Compare a [.GtE] [b] pos) (asB (mB dGe ma mb)) := jb_cmp (fun _ => op_ge.or op_ge_str) sem_cmp ha hb (nomark _)
theorem jb_eq {k : Nat} (hr : ∀ ξ, Room k (X ξ).A) (ha : JE K cl E X a ma) (hb : JE K cl E X b mb) : JB K cl E X (.Compare a [.Eq] [b] pos) (asB (mB dEq ma mb)) := jb_cmp (fun ξ => by rw [← ha.1 ξ]; exact op_eqD (hr ξ).units) sem_eq ha hb (nomark _)
theorem jb_ne {k : Nat} (hr : ∀ ξ, Room k (X ξ).A) (ha : JE K cl E X a ma) (hb : JE K cl E X b mb) : JB K cl E X (.Compare a [.NotEq] [b] pos) (asB (mB dNe ma mb)) := jb_cmp (fun ξ => by rw [← ha.1 ξ]; exact op_neD (hr ξ).units) sem_ne ha hb (nomark _)
theorem jb_is (ha : JE K cl E X a ma) (hb : JE K cl E X b mb) : JB K cl E X (.Compare a [.Is] [b] pos) (asB (mB dIs ma mb)) := jb_cmp (fun _ => op_isU) sem_is ha hb (nomark _)
theorem jb_isnot (ha : JE K cl E X a ma) (hb : JE K cl E X b mb) : JB K cl E X (.Compare a [.IsNot] [b] pos) (asB (mB dIsNot ma mb)) := jb_cmp (fun _ => op_isnotU) sem_isnot ha hb (nomark _)
end
end Nd

namespace Nd
open PySem PySem.Spec PyProof.Rows L2

section
variable {K : PySem.W.Frag} {cl : Cl} {E : L2.St → XK} {ι : Type} {X : ι → Cx} {a b c : Expr} {ma mb mc : ME} {pos : Pos} {es rest : List Expr}

/-! ### tests -/
theorem BPost.up {H H1 : Hp} (s : Same H H1) {E : XK} {Q : Bool → Hp → Prop} {r : RB} (h : BPost cl E H Q r) : BPost cl E H1 Q r := by
  cases r with
  | ok t => exact fun H2 s2 => h H2 (s.trans s2)
  | exc x => exact ExP.up s h
  | bad => exact h
def mNot (m : MB) : MB := fun e => match m e with
  | .ok b => .ok (!b)
  | r => r
def mAnd (m n : MB) : MB := fun e => match m e with
  | .ok true => n e
  | r => r
def mOr (m n : MB) : MB := fun e => match m e with
  | .ok false => n e
  | r => r
theorem jb_not {m : MB} (h : JB K cl E X a m) : JB K cl E X (.UnaryOp .Not a pos) (mNot m) := by
  obtain ⟨hKh, t, p, s⟩ := h
  refine ⟨hKh, _, fun ξ => pt_not (p ξ), fun σ H e A1 st Q k => ?_⟩
  refine s σ H e A1 st _ ?_
  unfold mNot at k
  cases q : m e with
  | ok b => rw [q] at k; exact k
  | exc x => rw [q] at k; exact k
  | bad => rw [q] at k; exact k
def JW (K : PySem.W.Frag) (cl : Cl) (E : L2.St → XK) {ι : Type} (X : ι → Cx) (e : Expr) (m : MB) : Prop := (∀ ξ, (X ξ).K = K) ∧ ∃ tt, (∀ ξ, PW (X ξ) e tt) ∧ SB K cl E tt m
theorem jb_w {m : MB} (h : JW K cl E X a m) : JB K cl E X a m := by
  obtain ⟨hKh, t, p, s⟩ := h
  exact ⟨hKh, t, fun ξ => (p ξ).pt, s⟩
theorem jw_and1 {m : MB} (h : JB K cl E X a m) : JW K cl E X (.BoolOp .And [a] pos) m := by
  obtain ⟨hKh, t, p, s⟩ := h
  exact ⟨hKh, t, fun ξ => pw_and1 (p ξ), s⟩
theorem jw_or1 {m : MB} (h : JB K cl E X a m) : JW K cl E X (.BoolOp .Or [a] pos) m := by
  obtain ⟨hKh, t, p, s⟩ := h
  exact ⟨hKh, t, fun ξ => pw_or1 (p ξ), s⟩
theorem jw_and {m n : MB} (h : JB K cl E X a m) (h2 : JW K cl E X (.BoolOp .And (b :: rest) pos) n) : JW K cl E X (.BoolOp .And (a :: b :: rest) pos) (mAnd m n) := by
  obtain ⟨hKh, t, p, s⟩ := h
  obtain ⟨hKh2, t2, p2, s2⟩ := h2
  refine ⟨hKh, _, fun ξ => pw_and (p ξ) (p2 ξ), fun σ H e A1 st Q k => ?_⟩
  refine s σ H e A1 st _ ?_
  unfold mAnd at k
  cases q : m e with
  | ok b =>
    rw [q] at k
    intro H1 u
    cases b with
    | true => exact iteT (s2 σ H1 e A1 (st.up u) _ (BPost.up u k))
    | false => exact iteF (k H1 u)
  | exc x => rw [q] at k; exact k
  | bad => rw [q] at k; exact k
theorem jw_or {m n : MB} (h : JB K cl E X a m) (h2 : JW K cl E X (.BoolOp .Or (b :: rest) pos) n) : JW K cl E X (.BoolOp .Or (a :: b :: rest) pos) (mOr m n) := by
  obtain ⟨hKh, t, p, s⟩ := h
  obtain ⟨hKh2, t2, p2, s2⟩ := h2
  refine ⟨hKh, _, fun ξ => pw_or (p ξ) (p2 ξ), fun σ H e A1 st Q k => ?_⟩
  refine s σ H e A1 st _ ?_
  unfold mOr at k
  cases q : m e with
  | ok b =>
    rw [q] at k
    intro H1 u
    cases b with
    | true => exact iteT (k H1 u)
    | false => exact iteF (s2 σ H1 e A1 (st.up u) _ (BPost.up u k))
  | exc x => rw [q] at k; exact k
  | bad => rw [q] at k; exact k
/-- a value's truth -/
def D.tru : D → Option Bool
  | .non => some false
  | .bl b => some b
  | .int i => some (i != 0)
  | .str x => if x.length ≤ sizeLine then some ((x.length : Int) != 0) else none
  | .lst xs => some (!xs.isEmpty)
  | .tup xs => some (!xs.isEmpty)
  | .dk ks _ => some (!ks.isEmpty)
  | _ => none
theorem rpA_empty {H : Hp} {vs : List V} {ds : List D} (h : RpA K cl H vs ds) : vs.isEmpty = ds.isEmpty := by cases h <;> rfl
theorem rp_tru {H : Hp} {A : List Addr} {v : V} {d : D} {b : Bool} (h : Rp K cl (hd H A) v d) (e : d.tru = some b) : TruV K v H b := by
  cases h with
  | non => cases e; rfl
  | bl b => cases e; rfl
  | int i => cases e; rfl
  | str x =>
    simp only [D.tru] at e
    split at e
    · rename_i hl; cases e; exact ⟨hl, rfl⟩
    · cases e
  | lst h1 h2 => cases e; exact .inl ⟨_, sqL_hid h1, by rw [rpA_empty h2]⟩
  | tup h1 h2 => cases e; exact .inr (.inl ⟨_, sqT_hid h1, by rw [rpA_empty h2]⟩)
  | dk h1 h2 h3 =>
    cases e
    refine .inr (.inr ⟨_, hd_le _ _ h1, ?_⟩)
    rw [← h2]
    simp
  | ins _ _ _ => cases e
  | ty _ => cases e
  | cls _ => cases e
  | ex _ => cases e
def mTru (m : ME) : MB := fun e => match m e with
  | .ok t => (match t.toD.tru with
    | some b => .ok b
    | none => .bad)
  | .exc x => .exc x
  | .bad => .bad
theorem jb_tru (h : JE K cl E X a ma) (he : ∀ ξ, ∀ whole, isTrue a (X ξ).env whole = (do let v ← whole; standAt a.pos; holding [v] (truthy v))) : JB K cl E X a (mTru ma) := by
  obtain ⟨hKh, t, p, s⟩ := h
  refine ⟨hKh, fun σ H Q => t σ H fun x H' => ∃ k, TruV K x H' k ∧ Q k H', fun ξ => by rw [← hKh ξ]; exact pt_truth (p ξ) (he ξ), fun σ H e A1 st Q k => ?_⟩
  refine s.d st ?_
  unfold mTru at k
  cases q : ma e with
  | bad => rw [q] at k; exact k
  | exc x => rw [q] at k; exact k
  | ok t' =>
    rw [q] at k
    intro v H2 u r
    cases q2 : t'.toD.tru with
    | none => simp only [q2] at k; exact k.elim
    | some b => simp only [q2] at k; exact ⟨b, rp_tru r q2, k H2 u⟩

/-! ### and, or, not as values -/
def mAndV (ma mb : ME) : ME := fun e => match ma e with
  | .ok (.p (.bl true)) => mb e
  | .ok (.p (.bl false)) => .ok (.p (.bl false))
  | .exc x => .exc x
  | _ => .bad
def mOrV (ma mb : ME) : ME := fun e => match ma e with
  | .ok (.p (.bl false)) => mb e
  | .ok (.p (.bl true)) => .ok (.p (.bl true))
  | .exc x => .exc x
  | _ => .bad
def mNotV (ma : ME) : ME := fun e => match ma e with
  | .ok (.p (.bl b)) => .ok (.p (.bl (!b)))
  | .exc x => .exc x
  | _ => .bad
/-- a bool, or an exception -/
theorem SE.bool {te : TE} {m : ME} (h : SE K cl E te m) {σ : L2.St} {H : Hp} {e : Env} {A1 : List Addr} (st : StE K cl σ H e A1) {Q : VK} (h1 : ∀ b H2, m e = .ok (.p (.bl b)) → Same H H2 → Q (.bl b) H2) (h2 : ∀ x, m e = .exc x → ExP cl (E σ) H x)
    (h3 : (∀ b, m e ≠ .ok (.p (.bl b))) → (∀ x, m e ≠ .exc x) → False) : te σ H Q := by
  refine h.d st ?_
  cases q : m e with
  | bad => exact (h3 (fun _ z => by rw [q] at z; cases z) (fun _ z => by rw [q] at z; cases z)).elim
  | exc x => exact h2 x q
  | ok t =>
    cases t with
    | l ts => exact (h3 (fun _ z => by rw [q] at z; cases z) (fun _ z => by rw [q] at z; cases z)).elim
    | k ks ts => exact (h3 (fun _ z => by rw [q] at z; cases z) (fun _ z => by rw [q] at z; cases z)).elim
    | i C ks ts tg => exact (h3 (fun _ z => by rw [q] at z; cases z) (fun _ z => by rw [q] at z; cases z)).elim
    | p d =>
      cases d with
      | bl b =>
        intro v H2 s r
        cases r
        exact h1 b H2 q s
      | _ => exact (h3 (fun _ z => by rw [q] at z; cases z) (fun _ z => by rw [q] at z; cases z)).elim
theorem je_one {op} {m : ME} (h : JE K cl E X a m) : JE K cl E X (.BoolOp op [a] pos) m := by
  obtain ⟨hKh, t, p, s⟩ := h
  exact ⟨hKh, t, fun ξ => pe_one (p ξ), s⟩
theorem je_and (ha : JE K cl E X a ma) (hb : JE K cl E X (.BoolOp .And (b :: rest) pos) mb) : JE K cl E X (.BoolOp .And (a :: b :: rest) pos) (mAndV ma mb) := by
  obtain ⟨hKha, t, p, s⟩ := ha
  obtain ⟨hKhb, t2, p2, s2⟩ := hb
  refine ⟨hKha, _, fun ξ => pe_and (p ξ) (p2 ξ), fun σ H e A1 st Q k => ?_⟩
  unfold mAndV at k
  refine s.bool st (fun b H1 q u => ?_) (fun x q => by rw [q] at k; exact k) (fun n1 n2 => ?_)
  · rw [q] at k
    refine ⟨b, rfl, ?_⟩
    cases b with
    | true => exact iteT (s2 σ H1 e A1 (st.up u) Q (k.up u))
    | false => exact iteF (OkP.pure k u (.bl false))
  · split at k
    · rename_i q; exact n1 _ q
    · rename_i q; exact n1 _ q
    · rename_i q; exact n2 _ q
    · exact k
theorem je_or (ha : JE K cl E X a ma) (hb : JE K cl E X (.BoolOp .Or (b :: rest) pos) mb) : JE K cl E X (.BoolOp .Or (a :: b :: rest) pos) (mOrV ma mb) := by
  obtain ⟨hKha, t, p, s⟩ := ha
  obtain ⟨hKhb, t2, p2, s2⟩ := hb
  refine ⟨hKha, _, fun ξ => pe_or (p ξ) (p2 ξ), fun σ H e A1 st Q k => ?_⟩
  unfold mOrV at k
  refine s.bool st (fun b H1 q u => ?_) (fun x q => by rw [q] at k; exact k) (fun n1 n2 => ?_)
  · rw [q] at k
    refine ⟨b, rfl, ?_⟩
    cases b with
    | false => exact iteF (s2 σ H1 e A1 (st.up u) Q (k.up u))
    | true => exact iteT (OkP.pure k u (.bl true))
  · split at k
    · rename_i q; exact n1 _ q
    · rename_i q; exact n1 _ q
    · rename_i q; exact n2 _ q
    · exact k
theorem je_not (ha : JE K cl E X a ma) : JE K cl E X (.UnaryOp .Not a pos) (mNotV ma) := by
  obtain ⟨hKha, t, p, s⟩ := ha
  refine ⟨hKha, _, fun ξ => pe_not (p ξ), fun σ H e A1 st Q k => ?_⟩
  unfold mNotV at k
  refine s.bool st (fun b H1 q u => ?_) (fun x q => by rw [q] at k; exact k) (fun n1 n2 => ?_)
  · rw [q] at k
    exact ⟨b, rfl, OkP.pure k u (.bl _)⟩
  · split at k
    · rename_i q; exact n1 _ q
    · rename_i q; exact n2 _ q
    · exact k
def dNeg : D → Option T
  | .int i => some (.p (.int (-i)))
  | _ => none
def mU (f : D → Option T) (m : ME) : ME := fun e => match m e with
  | .ok t => (match f t.toD with
    | some u => .ok u
    | none => .bad)
  | r => r
theorem je_neg (ha : JE K cl E X a ma) : JE K cl E X (.UnaryOp .USub a pos) (mU dNeg ma) := by
  obtain ⟨hKha, t, p, s⟩ := ha
  refine ⟨hKha, _, fun ξ => pe_un un_neg (p ξ), fun σ H e A1 st Q k => ?_⟩
  refine s.d st ?_
  unfold mU at k
  cases q : ma e with
  | bad => rw [q] at k; exact k
  | exc x => rw [q] at k; exact k
  | ok t' =>
    rw [q] at k
    intro v H2 u r
    simp only at k
    cases q2 : t'.toD with
    | int i =>
      rw [q2] at k r
      cases r
      exact ⟨i, rfl, OkP.pure k u (.int _)⟩
    | _ => rw [q2] at k; exact k.elim
def mIf (mc : MB) (ma mb : ME) : ME := fun e => match mc e with
  | .ok true => ma e
  | .ok false => mb e
  | .exc x => .exc x
  | .bad => .bad
theorem je_if {mc : MB} (hc : JB K cl E X c mc) (ha : JE K cl E X a ma) (hb : JE K cl E X b mb) : JE K cl E X (.IfExp c a b pos) (mIf mc ma mb) := by
  obtain ⟨hKhc, t, p, s⟩ := hc
  obtain ⟨hKha, t1, p1, s1⟩ := ha
  obtain ⟨hKhb, t2, p2, s2⟩ := hb
  refine ⟨hKhc, _, fun ξ => pe_ifExp (p ξ) (p1 ξ) (p2 ξ), fun σ H e A1 st Q k => ?_⟩
  refine s σ H e A1 st _ ?_
  unfold mIf at k
  cases q : mc e with
  | bad => rw [q] at k; exact k
  | exc x => rw [q] at k; exact k
  | ok b =>
    rw [q] at k
    intro H1 u
    cases b with
    | true => exact iteT (s1 σ H1 e A1 (st.up u) Q (k.up u))
    | false => exact iteF (s2 σ H1 e A1 (st.up u) Q (k.up u))
/-- a < b < c, whole numbers -/
def mChI (f g : Int → Int → Bool) (ma mb mc : ME) : ME := fun e => match ma e with
  | .ok (.p (.int i)) => (match mb e with
    | .ok (.p (.int j)) => if f i j = true then (match mc e with
        | .ok (.p (.int k)) => .ok (.p (.bl (g j k)))
        | .exc x => .exc x
        | _ => .bad) else .ok (.p (.bl false))
    | .exc x => .exc x
    | _ => .bad)
  | .exc x => .exc x
  | _ => .bad
theorem SE.int {te : TE} {m : ME} (h : SE K cl E te m) {σ : L2.St} {H : Hp} {e : Env} {A1 : List Addr} (st : StE K cl σ H e A1) {Q : VK} (h1 : ∀ b H2, m e = .ok (.p (.int b)) → Same H H2 → Q (.int b) H2) (h2 : ∀ x, m e = .exc x → ExP cl (E σ) H x)
    (h3 : (∀ b, m e ≠ .ok (.p (.int b))) → (∀ x, m e ≠ .exc x) → False) : te σ H Q := by
  refine h.d st ?_
  cases q : m e with
  | bad => exact (h3 (fun _ z => by rw [q] at z; cases z) (fun _ z => by rw [q] at z; cases z)).elim
  | exc x => exact h2 x q
  | ok t =>
    cases t with
    | l ts => exact (h3 (fun _ z => by rw [q] at z; cases z) (fun _ z => by rw [q] at z; cases z)).elim
    | k ks ts => exact (h3 (fun _ z => by rw [q] at z; cases z) (fun _ z => by rw [q] at z; cases z)).elim
    | i C ks ts tg => exact (h3 (fun _ z => by rw [q] at z; cases z) (fun _ z => by rw [q] at z; cases z)).elim
    | p d =>
      cases d with
      | int b =>
        intro v H2 s r
        cases r
        exact h1 b H2 q s
      | _ => exact (h3 (fun _ z => by rw [q] at z; cases z) (fun _ z => by rw [q] at z; cases z)).elim
theorem se_chain {f g : Int → Int → Bool} {ta tb tc : TE} (sa : SE K cl E ta ma) (sb : SE K cl E tb mb) (sc : SE K cl E tc mc) : SE K cl E (tChain (rI0 fun i j => .bl (f i j)) (rI0 fun i j => .bl (g i j)) ta tb tc) (mChI f g ma mb mc) := by
  intro σ H e A1 st Q k
  unfold mChI at k
  refine sa.int st (fun i H1 q1 u1 => ?_) (fun x q => by rw [q] at k; exact k) (fun n1 n2 => ?_)
  · rw [q1] at k
    refine sb.int (st.up u1) (fun j H2 q2 u2 => ?_) (fun x q => by rw [q] at k; exact ExP.up u1 k) (fun n1 n2 => ?_)
    · rw [q2] at k
      simp only at k
      refine ⟨i, j, rfl, rfl, f i j, rfl, ?_⟩
      by_cases hf : f i j = true
      · rw [if_pos hf] at k
        rw [if_pos hf]
        refine sc.int ((st.up u1).up u2) (fun l H3 q3 u3 => ?_) (fun x q => by rw [q] at k; exact ExP.up (u1.trans u2) k) (fun n1 n2 => ?_)
        · rw [q3] at k
          exact ⟨j, l, rfl, rfl, OkP.pure k ((u1.trans u2).trans u3) (.bl _)⟩
        · split at k
          · rename_i q; exact n1 _ q
          · rename_i q; exact n2 _ q
          · exact k
      · rw [if_neg hf] at k
        rw [if_neg hf]
        exact OkP.pure k (u1.trans u2) (.bl _)
    · simp only at k
      first
        | exact k
        | (split at k
           · rename_i q; exact n1 _ q
           · rename_i q; exact n2 _ q
           · exact k)
  · split at k
    · rename_i q; exact n1 _ q
    · rename_i q; exact n2 _ q
    · exact k
theorem je_chain {op op' : CmpOp} {f g : Int → Int → Bool} (ho : ∀ ξ, OpR (X ξ) (compareOp op) (rI0 fun i j => .bl (f i j))) (ho' : ∀ ξ, OpR (X ξ) (compareOp op') (rI0 fun i j => .bl (g i j))) (ha : JE K cl E X a ma) (hb : JE K cl E X b mb) (hc : JE K cl E X c mc) (hm : lastMarks [op, op'] [b, c] = false := by with_unfolding_all rfl) : JE K cl E X (.Compare a [op, op'] [b, c] pos) (mChI f g ma mb mc) := by
  obtain ⟨hKha, t, p, s⟩ := ha
  obtain ⟨hKhb, t1, p1, s1⟩ := hb
  obtain ⟨hKhc, t2, p2, s2⟩ := hc
  exact ⟨hKha, _, fun ξ => pe_chain (ho ξ) (ho' ξ) (p ξ) (p1 ξ) (p2 ξ) hm, se_chain s s1 s2⟩
theorem jb_chain {op op' : CmpOp} {f g : Int → Int → Bool} (ho : ∀ ξ, OpR (X ξ) (compareOp op) (rI0 fun i j => .bl (f i j))) (ho' : ∀ ξ, OpR (X ξ) (compareOp op') (rI0 fun i j => .bl (g i j))) (ha : JE K cl E X a ma) (hb : JE K cl E X b mb) (hc : JE K cl E X c mc) (hm : lastMarks [op, op'] [b, c] = false := by with_unfolding_all rfl) : JB K cl E X (.Compare a [op, op'] [b, c] pos) (asB (mChI f g ma mb mc)) := by
  obtain ⟨hKha, t, p, s⟩ := ha
  obtain ⟨hKhb, t1, p1, s1⟩ := hb
  obtain ⟨hKhc, t2, p2, s2⟩ := hc
  exact ⟨hKha, _, fun ξ => pt_chain (ho ξ) (ho' ξ) (p ξ) (p1 ξ) (p2 ξ) hm, sb_test (se_chain s s1 s2)⟩

/-! ### arguments -/
theorem APost.up {H H1 : Hp} {A : List Addr} (s : Same H H1) {E : XK} {Q : List V → Hp → Prop} {r : RL} (h : APost K cl E H A Q r) : APost K cl E H1 A Q r := by
  cases r with
  | ok t => exact fun vs H2 s2 => h vs H2 (s.trans s2)
  | exc x => exact ExP.up s h
  | bad => exact h
def mNil : Env → RL := fun _ => .ok []
def mCons (m : ME) (ms : Env → RL) : Env → RL := fun e => match m e with
  | .ok t => (match ms e with
    | .ok ds => .ok (t.toD :: ds)
    | r => r)
  | .exc x => .exc x
  | .bad => .bad
theorem ja_nil (hK : ∀ ξ, (X ξ).K = K) : JA K cl E X [] mNil := ⟨hK, _, fun ξ => pa_nil, fun σ H e A1 st Q k => k [] H (Same.refl _) .nil⟩
theorem sa_cons {te : TE} {ta : TA} {m : ME} {ms : Env → RL} (s : SE K cl E te m) (s2 : SA K cl E ta ms) : SA K cl E (tCons te ta) (mCons m ms) := by
  intro σ H e A1 st Q k
  refine s.d st ?_
  unfold mCons at k
  cases q : m e with
  | bad => rw [q] at k; exact k
  | exc x => rw [q] at k; exact k
  | ok t =>
    rw [q] at k
    intro v H1 u r
    refine s2 σ H1 e A1 (st.up u) _ ?_
    cases q2 : ms e with
    | bad => rw [q2] at k; exact k
    | exc x => rw [q2] at k; exact ExP.up u k
    | ok ds =>
      rw [q2] at k
      exact fun vs H2 u2 r2 => k (v :: vs) H2 (u.trans u2) (.cons (r.mono (hd_same u2 fun a ha => .inl ha)) r2)
theorem ja_cons {m : ME} {ms : Env → RL} (h : JE K cl E X a m) (h2 : JA K cl E X es ms) (hs : ∀ ξ, starEach (a :: es) (X ξ).env = (false, eval a (X ξ).env) :: starEach es (X ξ).env := by intro _; rfl) : JA K cl E X (a :: es) (mCons m ms) := by
  obtain ⟨hKh, t, p, s⟩ := h
  obtain ⟨hKh2, t2, p2, s2⟩ := h2
  exact ⟨hKh, _, fun ξ => pa_cons (p ξ) (p2 ξ) (hs ξ), sa_cons s s2⟩
/-! owned ones -/
def mNilT : Env → RLT := fun _ => .ok []
def mConsT (m : ME) (ms : Env → RLT) : Env → RLT := fun e => match m e with
  | .ok t => (match ms e with
    | .ok ds => .ok (t :: ds)
    | r => r)
  | .exc x => .exc x
  | .bad => .bad
theorem jt_nil (hK : ∀ ξ, (X ξ).K = K) : JT K cl E X [] mNilT := ⟨hK, _, fun ξ => pa_nil, fun σ H e A1 st Q k => k [] H [] (Same.refl _) (fun a ha => by simp at ha) List.nodup_nil .nil⟩
theorem jt_cons {m : ME} {ms : Env → RLT} (h : JE K cl E X a m) (h2 : JT K cl E X es ms) (hs : ∀ ξ, starEach (a :: es) (X ξ).env = (false, eval a (X ξ).env) :: starEach es (X ξ).env := by intro _; rfl) : JT K cl E X (a :: es) (mConsT m ms) := by
  obtain ⟨hKh, t, p, s⟩ := h
  obtain ⟨hKh2, t2, p2, s2⟩ := h2
  refine ⟨hKh, _, fun ξ => pa_cons (p ξ) (p2 ξ) (hs ξ), fun σ H e A1 st Q k => ?_⟩
  refine s σ H e A1 st _ ?_
  unfold mConsT at k
  cases q : m e with
  | bad => rw [q] at k; exact k
  | exc x => rw [q] at k; exact k
  | ok t =>
    rw [q] at k
    intro v H1 F1 u f1 nd1 r
    have st1 := st.more u f1 r.ow
    refine s2 σ H1 e _ st1 _ ?_
    cases q2 : ms e with
    | bad => rw [q2] at k; exact k
    | exc x => rw [q2] at k; exact ExP.up u k
    | ok ds =>
      rw [q2] at k
      intro vs H2 F2 u2 f2 nd2 r2
      refine k (v :: vs) H2 (F1 ++ F2) (u.trans u2) (fun b hb => ?_) ?_ (.cons ?_ ?_)
      · rcases List.mem_append.mp hb with z | z
        · exact f1 b z
        · exact u.free (f2 b z)
      · refine List.nodup_append.mpr ⟨nd1, nd2, fun x hx y hy z => ?_⟩
        subst z
        exact r.dom x hx (f2 x hy)
      · refine r.mono (hd_same u2 fun b hb => ?_) fun b hb => ?_
        · rw [← List.append_assoc] at hb
          rcases List.mem_append.mp hb with z | z
          · exact .inl z
          · exact .inr (f2 b z)
        · cases e1 : H1 b with
          | none => exact absurd e1 (r.dom b hb)
          | some o => exact u2 b o e1
      · rw [← List.append_assoc]
        exact r2
/-! displays -/
def mL (ms : Env → RLT) : ME := fun e => match ms e with
  | .ok ts => if ts.length ≤ sizeLine then .ok (.l ts) else .bad
  | .exc x => .exc x
  | .bad => .bad
theorem je_list {ms : Env → RLT} (h : JT K cl E X es ms) : JE K cl E X (.List es pos) (mL ms) := by
  obtain ⟨hKh, t, p, s⟩ := h
  refine ⟨hKh, _, fun ξ => pe_lst (p ξ), fun σ H e A1 st Q k => ?_⟩
  refine s σ H e A1 st _ ?_
  unfold mL at k
  cases q : ms e with
  | bad => rw [q] at k; exact k
  | exc x => rw [q] at k; exact k
  | ok ts =>
    rw [q] at k
    simp only at k
    by_cases hl : ts.length ≤ sizeLine
    · rw [if_pos hl] at k
      exact fun vs H2 F u f nd r => ⟨by rw [r.length]; exact hl, fun p hp => OkP.newL k u f nd hp r⟩
    · rw [if_neg hl] at k; exact k.elim
def mTup (ms : Env → RL) : ME := fun e => match ms e with
  | .ok ds => if ds.length ≤ sizeLine then .ok (.p (.tup ds)) else .bad
  | .exc x => .exc x
  | .bad => .bad
theorem je_tup {x1} {ms : Env → RL} (h : JA K cl E X es ms) : JE K cl E X (.Tuple es x1 pos) (mTup ms) := by
  obtain ⟨hKh, t, p, s⟩ := h
  refine ⟨hKh, _, fun ξ => pe_tup (p ξ), fun σ H e A1 st Q k => ?_⟩
  refine s σ H e A1 st _ ?_
  unfold mTup at k
  cases q : ms e with
  | bad => rw [q] at k; exact k
  | exc x => rw [q] at k; exact k
  | ok ds =>
    rw [q] at k
    simp only at k
    by_cases hl : ds.length ≤ sizeLine
    · rw [if_pos hl] at k
      exact fun vs H2 u r => ⟨by rw [r.length]; exact hl, fun p hp => OkP.newT k u st.1 hp r⟩
    · rw [if_neg hl] at k; exact k.elim

/-! ### built-ins by values -/
def CSem (K : PySem.W.Frag) (cl : Cl) (r : List V → Hp → VK → Prop) (f : List D → Option T) : Prop := ∀ (H : Hp) (A : List Addr), (∀ a ∈ A, Ow (H a)) → ∀ vs ds t, RpA K cl (hd H A) vs ds → f ds = some t → ∀ Q, OkP K cl H A Q t → r vs H Q
def mCB (f : List D → Option T) (ms : Env → RL) : ME := fun e => match ms e with
  | .ok ds => (match f ds with
    | some t => .ok t
    | none => .bad)
  | .exc x => .exc x
  | .bad => .bad
theorem se_cb {r : List V → Hp → VK → Prop} {f : List D → Option T} {ta : TA} {ms : Env → RL} (hs : CSem K cl r f) (s : SA K cl E ta ms) : SE K cl E (tCB r ta) (mCB f ms) := by
  intro σ H e A1 st Q k
  refine s σ H e A1 st _ ?_
  unfold mCB at k
  cases q : ms e with
  | bad => rw [q] at k; exact k
  | exc x => rw [q] at k; exact k
  | ok ds =>
    rw [q] at k
    simp only at k
    intro vs H2 u rr
    cases q2 : f ds with
    | none => rw [q2] at k; exact k.elim
    | some t => rw [q2] at k; exact hs H2 A1 (fun a ha => (st.1 a ha).same u) vs ds t rr q2 Q (OkP.up u k)
theorem je_cb {id : String} {x : Str} {p : Pos} {r : List V → Hp → VK → Prop} {f : List D → Option T} {ms : Env → RL} (hc : ∀ ξ, CallR (X ξ) (.builtin id) r) (hs : CSem K cl r f) (hg : ∀ ξ, Gl (X ξ) x) (hm : ∀ ξ, (X ξ).mg x = none) (hv : bootBuiltins x = some (.builtin id)) (ha : JA K cl E X (a :: es) ms) (hn : x ≠ "__name__" := by decide) (hdb : (x == ("__debug__" : Str)) = false := by decide) (he : ∀ ξ, starEach (a :: es) (X ξ).env = (false, eval a (X ξ).env) :: starEach es (X ξ).env := by intro _; rfl) (hpl : ∀ ξ, (backTo pos (starEach es (X ξ).env)).any (·.1) = false := by intro _; rfl) : JE K cl E X (.Call (.Name x p) (a :: es) [] pos) (mCB f ms) := by
  obtain ⟨hKha, t, pa, s⟩ := ha
  exact ⟨hKha, _, fun ξ => pe_callB (hc ξ) (hg ξ) (hm ξ) hv (pa ξ) hn hdb (he ξ) (hpl ξ), se_cb hs s⟩
theorem je_ct {Ty : String} {x : Str} {p : Pos} {r : List V → Hp → VK → Prop} {f : List D → Option T} {ms : Env → RL} (hc : ∀ ξ, CallR (X ξ) (.type Ty) r) (hs : CSem K cl r f) (hg : ∀ ξ, Gl (X ξ) x) (hm : ∀ ξ, (X ξ).mg x = none) (hv : bootBuiltins x = some (.type Ty)) (ha : JA K cl E X (a :: es) ms) (hn : x ≠ "__name__" := by decide) (hdb : (x == ("__debug__" : Str)) = false := by decide) (he : ∀ ξ, starEach (a :: es) (X ξ).env = (false, eval a (X ξ).env) :: starEach es (X ξ).env := by intro _; rfl) (hpl : ∀ ξ, (backTo pos (starEach es (X ξ).env)).any (·.1) = false := by intro _; rfl) : JE K cl E X (.Call (.Name x p) (a :: es) [] pos) (mCB f ms) := by
  obtain ⟨hKha, t, pa, s⟩ := ha
  exact ⟨hKha, _, fun ξ => pe_callTy (hc ξ) (hg ξ) (hm ξ) hv (pa ξ) hn hdb (he ξ) (hpl ξ), se_cb hs s⟩

def fLen : List D → Option T
  | [.str x] => if x.length ≤ sizeLine then some (.p (.int x.length)) else none
  | [.lst xs] => some (.p (.int xs.length))
  | [.tup xs] => some (.p (.int xs.length))
  | _ => none
theorem sem_len : CSem K cl (fun xs H Q => ∃ x n, xs = [x] ∧ LenV K x H n ∧ Q (.int n) H) fLen := by
  intro H A o vs ds t r e Q k
  cases r with
  | nil => cases e
  | cons h1 h2 =>
    cases h2 with
    | cons _ _ => cases h1 <;> (simp only [fLen] at e; cases e)
    | nil =>
      cases h1 with
      | str x =>
        simp only [fLen] at e
        split at e
        · rename_i hl; cases e; exact ⟨_, _, rfl, ⟨hl, rfl⟩, OkP.pure k (Same.refl _) (.int _)⟩
        · cases e
      | lst q1 q2 => simp only [fLen] at e; cases e; exact ⟨_, _, rfl, .inl ⟨_, sqL_hid q1, rfl⟩, OkP.pure k (Same.refl _) (by rw [q2.length]; exact .int _)⟩
      | tup q1 q2 => simp only [fLen] at e; cases e; exact ⟨_, _, rfl, .inr ⟨_, sqT_hid q1, rfl⟩, OkP.pure k (Same.refl _) (by rw [q2.length]; exact .int _)⟩
      | _ => simp only [fLen] at e; cases e
theorem je_len {p : Pos} {ms : Env → RL} (hg : ∀ ξ, Gl (X ξ) "len") (hm : ∀ ξ, (X ξ).mg "len" = none) (ha : JA K cl E X [a] ms) (he : ∀ ξ, starEach [a] (X ξ).env = (false, eval a (X ξ).env) :: starEach [] (X ξ).env := by intro _; rfl) : JE K cl E X (.Call (.Name "len" p) [a] [] pos) (mCB fLen ms) :=
  je_cb (fun ξ => by rw [← ha.1 ξ]; exact call_len) sem_len hg hm PySem.boot_len ha (by decide) (by decide) he (fun _ => rfl)
def fMax2 : List D → Option T
  | [.int i, .int j] => some (.p (.int (if j > i then j else i)))
  | _ => none
def fMin2 : List D → Option T
  | [.int i, .int j] => some (.p (.int (if j < i then j else i)))
  | _ => none
theorem RpA.two {H : Hp} {vs : List V} {d1 d2 : D} (h : RpA K cl H vs [d1, d2]) : ∃ v1 v2, vs = [v1, v2] ∧ Rp K cl H v1 d1 ∧ Rp K cl H v2 d2 := by
  cases h with
  | cons h1 h2 =>
    cases h2 with
    | cons h2 h3 => cases h3; exact ⟨_, _, rfl, h1, h2⟩
theorem RpA.one {H : Hp} {vs : List V} {d1 : D} (h : RpA K cl H vs [d1]) : ∃ v1, vs = [v1] ∧ Rp K cl H v1 d1 := by
  cases h with
  | cons h1 h2 => cases h2; exact ⟨_, rfl, h1⟩
theorem sem_max2 : CSem K cl (fun xs H Q => ∃ i j, xs = [.int i, .int j] ∧ Q (.int (if j > i then j else i)) H) fMax2 := by
  intro H A o vs ds t r e Q k
  unfold fMax2 at e
  split at e
  · cases e
    obtain ⟨v1, v2, rfl, h1, h2⟩ := r.two
    cases h1
    cases h2
    exact ⟨_, _, rfl, OkP.pure k (Same.refl _) (.int _)⟩
  · cases e
theorem sem_min2 : CSem K cl (fun xs H Q => ∃ i j, xs = [.int i, .int j] ∧ Q (.int (if j < i then j else i)) H) fMin2 := by
  intro H A o vs ds t r e Q k
  unfold fMin2 at e
  split at e
  · cases e
    obtain ⟨v1, v2, rfl, h1, h2⟩ := r.two
    cases h1
    cases h2
    exact ⟨_, _, rfl, OkP.pure k (Same.refl _) (.int _)⟩
  · cases e
/-- whole numbers alone -/
def D.ints : List D → Option (List Int)
  | [] => some []
  | .int i :: ds => (D.ints ds).map (i :: ·)
  | _ :: _ => none
theorem D.ints_of : ∀ {ds : List D} {ns : List Int}, D.ints ds = some ns → ds = ns.map D.int
  | [], _, e => by cases e; rfl
  | .int i :: ds, ns, e => by
    simp only [D.ints] at e
    obtain ⟨ms, e1, rfl⟩ := Option.map_eq_some_iff.mp e
    rw [D.ints_of e1]; rfl
  | .non :: _, _, e => by cases e
  | .bl _ :: _, _, e => by cases e
  | .str _ :: _, _, e => by cases e
  | .lst _ :: _, _, e => by cases e
  | .tup _ :: _, _, e => by cases e
  | .dk _ _ :: _, _, e => by cases e
  | .ins _ _ _ :: _, _, e => by cases e
  | .ty _ :: _, _, e => by cases e
  | .cls _ :: _, _, e => by cases e
  | .ex _ _ _ :: _, _, e => by cases e
theorem D.ints_map : ∀ ns : List Int, D.ints (ns.map D.int) = some ns
  | [] => rfl
  | n :: ns => by rw [List.map_cons, D.ints, D.ints_map ns]; rfl
def D.bls : List D → Option (List Bool)
  | [] => some []
  | .bl i :: ds => (D.bls ds).map (i :: ·)
  | _ :: _ => none
theorem D.bls_of : ∀ {ds : List D} {ns : List Bool}, D.bls ds = some ns → ds = ns.map D.bl
  | [], _, e => by cases e; rfl
  | .bl i :: ds, ns, e => by
    simp only [D.bls] at e
    obtain ⟨ms, e1, rfl⟩ := Option.map_eq_some_iff.mp e
    rw [D.bls_of e1]; rfl
  | .non :: _, _, e => by cases e
  | .int _ :: _, _, e => by cases e
  | .str _ :: _, _, e => by cases e
  | .lst _ :: _, _, e => by cases e
  | .tup _ :: _, _, e => by cases e
  | .dk _ _ :: _, _, e => by cases e
  | .ins _ _ _ :: _, _, e => by cases e
  | .ty _ :: _, _, e => by cases e
  | .cls _ :: _, _, e => by cases e
  | .ex _ _ _ :: _, _, e => by cases e
theorem D.bls_map : ∀ ns : List Bool, D.bls (ns.map D.bl) = some ns
  | [] => rfl
  | n :: ns => by rw [List.map_cons, D.bls, D.bls_map ns]; rfl
/-- a list of whole numbers, as it stands -/
theorem rp_ints {H : Hp} {A : List Addr} {v : V} {ds : List D} {ns : List Int} (h : Rp K cl (hd H A) v (.lst ds)) (e : D.ints ds = some ns) : ∃ a, v = .ref a ∧ SqL K H a (ns.map V.int) := by
  have e' := D.ints_of e
  subst e'
  cases h with
  | lst h1 h2 =>
    rw [h2.ints] at h1
    exact ⟨_, rfl, sqL_hid h1⟩
theorem rp_bls {H : Hp} {A : List Addr} {v : V} {ds : List D} {ns : List Bool} (h : Rp K cl (hd H A) v (.lst ds)) (e : D.bls ds = some ns) : ∃ a, v = .ref a ∧ SqL K H a (ns.map V.bl) := by
  have e' := D.bls_of e
  subst e'
  cases h with
  | lst h1 h2 =>
    rw [h2.bls] at h1
    exact ⟨_, rfl, sqL_hid h1⟩
def fSum : List D → Option T
  | [.lst ds] => (D.ints ds).map fun ns => .p (.int ns.sum)
  | _ => none
theorem sem_sum : CSem K cl (rSum K) fSum := by
  intro H A o vs ds t r e Q k
  unfold fSum at e
  split at e
  · obtain ⟨ns, e1, rfl⟩ := Option.map_eq_some_iff.mp e
    obtain ⟨v1, rfl, h1⟩ := r.one
    obtain ⟨a, rfl, q⟩ := rp_ints h1 e1
    exact ⟨a, ns, rfl, q, OkP.pure k (Same.refl _) (.int _)⟩
  · cases e
def fAny : List D → Option T
  | [.lst ds] => (D.bls ds).map fun ns => .p (.bl (ns.any id))
  | _ => none
def fAll : List D → Option T
  | [.lst ds] => (D.bls ds).map fun ns => .p (.bl (ns.all id))
  | _ => none
theorem sem_any : CSem K cl (rAny K) fAny := by
  intro H A o vs ds t r e Q k
  unfold fAny at e
  split at e
  · obtain ⟨ns, e1, rfl⟩ := Option.map_eq_some_iff.mp e
    obtain ⟨v1, rfl, h1⟩ := r.one
    obtain ⟨a, rfl, q⟩ := rp_bls h1 e1
    exact ⟨a, ns, rfl, q, OkP.pure k (Same.refl _) (.bl _)⟩
  · cases e
theorem sem_all : CSem K cl (rAll K) fAll := by
  intro H A o vs ds t r e Q k
  unfold fAll at e
  split at e
  · obtain ⟨ns, e1, rfl⟩ := Option.map_eq_some_iff.mp e
    obtain ⟨v1, rfl, h1⟩ := r.one
    obtain ⟨a, rfl, q⟩ := rp_bls h1 e1
    exact ⟨a, ns, rfl, q, OkP.pure k (Same.refl _) (.bl _)⟩
  · cases e
/-- the greatest, the least of some -/
def imax : Int → List Int → Int
  | x, [] => x
  | x, y :: ys => imax (if x < y then y else x) ys
def imin : Int → List Int → Int
  | x, [] => x
  | x, y :: ys => imin (if y < x then y else x) ys
theorem imax_spec : ∀ (ys : List Int) (x : Int), (imax x ys = x ∨ imax x ys ∈ ys) ∧ x ≤ imax x ys ∧ ∀ y ∈ ys, y ≤ imax x ys
  | [], x => ⟨.inl rfl, Int.le_refl _, fun _ h => by simp at h⟩
  | y :: ys, x => by
    obtain ⟨h1, h2, h3⟩ := imax_spec ys (if x < y then y else x)
    unfold imax
    by_cases hxy : x < y
    · rw [if_pos hxy] at h1 h2 h3 ⊢
      refine ⟨.inr ?_, by omega, fun z hz => ?_⟩
      · rcases h1 with h1 | h1
        · rw [h1]; exact List.mem_cons_self
        · exact List.mem_cons_of_mem _ h1
      · rcases List.mem_cons.mp hz with rfl | hz
        · exact h2
        · exact h3 z hz
    · rw [if_neg hxy] at h1 h2 h3 ⊢
      refine ⟨h1.imp id (List.mem_cons_of_mem _), h2, fun z hz => ?_⟩
      rcases List.mem_cons.mp hz with rfl | hz
      · omega
      · exact h3 z hz
theorem imin_spec : ∀ (ys : List Int) (x : Int), (imin x ys = x ∨ imin x ys ∈ ys) ∧ imin x ys ≤ x ∧ ∀ y ∈ ys, imin x ys ≤ y
  | [], x => ⟨.inl rfl, Int.le_refl _, fun _ h => by simp at h⟩
  | y :: ys, x => by
    obtain ⟨h1, h2, h3⟩ := imin_spec ys (if y < x then y else x)
    unfold imin
    by_cases hxy : y < x
    · rw [if_pos hxy] at h1 h2 h3 ⊢
      refine ⟨.inr ?_, by omega, fun z hz => ?_⟩
      · rcases h1 with h1 | h1
        · rw [h1]; exact List.mem_cons_self
        · exact List.mem_cons_of_mem _ h1
      · rcases List.mem_cons.mp hz with rfl | hz
        · exact h2
        · exact h3 z hz
    · rw [if_neg hxy] at h1 h2 h3 ⊢
      refine ⟨h1.imp id (List.mem_cons_of_mem _), h2, fun z hz => ?_⟩
      rcases List.mem_cons.mp hz with rfl | hz
      · omega
      · exact h3 z hz
def fMax1 : List D → Option T
  | [.lst ds] => match D.ints ds with
    | some (x :: ys) => some (.p (.int (imax x ys)))
    | _ => none
  | _ => none
def fMin1 : List D → Option T
  | [.lst ds] => match D.ints ds with
    | some (x :: ys) => some (.p (.int (imin x ys)))
    | _ => none
  | _ => none
theorem sem_max1 : CSem K cl (rMax K) fMax1 := by
  intro H A o vs ds t r e Q k
  unfold fMax1 at e
  split at e
  · split at e
    · rename_i x ys e1
      cases e
      obtain ⟨v1, rfl, h1⟩ := r.one
      obtain ⟨a, rfl, q⟩ := rp_ints h1 e1
      refine ⟨a, _, rfl, q, Nat.succ_pos _, fun m hm hle => ?_⟩
      obtain ⟨s1, s2, s3⟩ := imax_spec ys x
      have e2 : m = imax x ys := by
        have h4 : imax x ys ≤ m := by
          rcases s1 with s1 | s1
          · rw [s1]; exact hle x List.mem_cons_self
          · exact hle _ (List.mem_cons_of_mem _ s1)
        have h5 : m ≤ imax x ys := by
          rcases List.mem_cons.mp hm with rfl | hm
          · exact s2
          · exact s3 m hm
        omega
      rw [e2]
      exact OkP.pure k (Same.refl _) (.int _)
    · cases e
  · cases e
theorem sem_min1 : CSem K cl (rMin K) fMin1 := by
  intro H A o vs ds t r e Q k
  unfold fMin1 at e
  split at e
  · split at e
    · rename_i x ys e1
      cases e
      obtain ⟨v1, rfl, h1⟩ := r.one
      obtain ⟨a, rfl, q⟩ := rp_ints h1 e1
      refine ⟨a, _, rfl, q, Nat.succ_pos _, fun m hm hle => ?_⟩
      obtain ⟨s1, s2, s3⟩ := imin_spec ys x
      have e2 : m = imin x ys := by
        have h4 : m ≤ imin x ys := by
          rcases s1 with s1 | s1
          · rw [s1]; exact hle x List.mem_cons_self
          · exact hle _ (List.mem_cons_of_mem _ s1)
        have h5 : imin x ys ≤ m := by
          rcases List.mem_cons.mp hm with rfl | hm
          · exact s2
          · exact s3 m hm
        omega
      rw [e2]
      exact OkP.pure k (Same.refl _) (.int _)
    · cases e
  · cases e
def fList1 : List D → Option T
  | [.lst ds] => some (.l (ds.map T.p))
  | [.tup ds] => some (.l (ds.map T.p))
  | _ => none
theorem sem_list1 : CSem K cl (fun xs H Q => ∃ p ys, xs = [.ref p] ∧ (SqL K H p ys ∨ SqT K H p ys) ∧ ∀ l, H l = none → Q (.ref l) (upd H l (.lst ys))) fList1 := by
  intro H A o vs ds t r e Q k
  unfold fList1 at e
  split at e
  · cases e
    obtain ⟨v1, rfl, h1⟩ := r.one
    cases h1 with
    | lst q1 q2 => exact ⟨_, _, rfl, .inl (sqL_hid q1), fun l hl => OkP.newLp k (Same.refl _) hl q2⟩
  · cases e
    obtain ⟨v1, rfl, h1⟩ := r.one
    cases h1 with
    | tup q1 q2 => exact ⟨_, _, rfl, .inr (sqT_hid q1), fun l hl => OkP.newLp k (Same.refl _) hl q2⟩
  · cases e
def fTuple1 : List D → Option T
  | [.lst ds] => some (.p (.tup ds))
  | [.tup ds] => some (.p (.tup ds))
  | _ => none
theorem sem_tuple1 : CSem K cl (fun xs H Q => ∃ p ys, xs = [.ref p] ∧ ((SqL K H p ys ∧ ∀ l, H l = none → Q (.ref l) (upd H l (.tup ys))) ∨ (SqT K H p ys ∧ Q (.ref p) H))) fTuple1 := by
  intro H A o vs ds t r e Q k
  unfold fTuple1 at e
  split at e
  · cases e
    obtain ⟨v1, rfl, h1⟩ := r.one
    cases h1 with
    | lst q1 q2 => exact ⟨_, _, rfl, .inl ⟨sqL_hid q1, fun l hl => OkP.newT k (Same.refl _) o hl q2⟩⟩
  · cases e
    obtain ⟨v1, rfl, h1⟩ := r.one
    cases h1 with
    | tup q1 q2 => exact ⟨_, _, rfl, .inr ⟨sqT_hid q1, OkP.pure k (Same.refl _) (.tup q1 q2)⟩⟩
  · cases e

/-! ### slices -/
inductive RO where
  | ok (o : Option Int) | exc (x : Xn) | bad
def JO (K : PySem.W.Frag) (cl : Cl) (E : L2.St → XK) {ι : Type} (X : ι → Cx) (o : Option Expr) (m : Env → RO) : Prop := (∀ ξ, (X ξ).K = K) ∧ ∃ to, (∀ ξ, PO (X ξ) o to) ∧ ∀ σ H e A1, StE K cl σ H e A1 → ∀ Q : Option Int → Hp → Prop, (match m e with
  | .ok o => ∀ H2, Same H H2 → Q o H2
  | .exc x => ExP cl (E σ) H x
  | .bad => False) → to σ H Q
theorem jo_none (hK : ∀ ξ, (X ξ).K = K) : JO K cl E X none (fun _ => .ok none) := ⟨hK, _, fun ξ => po_none, fun σ H e A1 st Q k => k H (Same.refl _)⟩
def mO (m : ME) : Env → RO := fun e => match m e with
  | .ok (.p (.int i)) => .ok (some i)
  | .exc x => .exc x
  | _ => .bad
theorem jo_some (h : JE K cl E X a ma) : JO K cl E X (some a) (mO ma) := by
  obtain ⟨hKh, t, p, s⟩ := h
  refine ⟨hKh, _, fun ξ => po_some (p ξ), fun σ H e A1 st Q k => ?_⟩
  unfold mO at k
  refine s.int st (fun i H1 q1 u1 => ?_) (fun x q => by rw [q] at k; exact k) (fun n1 n2 => ?_)
  · rw [q1] at k
    exact ⟨i, rfl, k H1 u1⟩
  · revert k
    split
    · rename_i q; intro _
      split at q
      · rename_i q'; exact n1 _ q'
      · cases q
      · cases q
    · rename_i q; intro _
      split at q
      · cases q
      · rename_i q'; exact n2 _ q'
      · cases q
    · exact id
def cutL {α : Type} (xs : List α) (lo hi : Option Int) : List α := (xs.drop (HT.sIx xs.length 0 lo)).take (HT.sIx xs.length xs.length hi - HT.sIx xs.length 0 lo)
def dSl (d : D) (lo hi : Option Int) : Option T := match d with
  | .lst xs => some (.l ((cutL xs lo hi).map T.p))
  | .tup xs => some (.p (.tup (cutL xs lo hi)))
  | .str x => if x.length ≤ sizeLine then some (.p (.str (cutS x lo hi))) else none
  | _ => none
theorem RpA.cut {H : Hp} {vs : List V} {ds : List D} (h : RpA K cl H vs ds) (lo hi : Option Int) : RpA K cl H (cutV vs lo hi) (cutL ds lo hi) := by
  unfold cutV cutL
  rw [h.length]
  exact (h.drop _).take _
theorem cut_whole {α : Type} {xs : List α} {lo hi : Option Int} (h : HT.sIx xs.length 0 lo = 0 ∧ HT.sIx xs.length xs.length hi = xs.length) : cutL xs lo hi = xs := by
  unfold cutL
  rw [h.1, h.2]
  simp
def mSl (m : ME) (lo hi : Env → RO) : ME := fun e => match m e with
  | .ok t => (match lo e with
    | .ok l => (match hi e with
      | .ok h => (match dSl t.toD l h with
        | some u => .ok u
        | none => .bad)
      | .exc x => .exc x
      | .bad => .bad)
    | .exc x => .exc x
    | .bad => .bad)
  | r => r
abbrev rSlU (K : PySem.W.Frag) : V → Option Int → Option Int → Hp → VK → Prop := fun x lo hi H Q => rSlL K x lo hi H Q ∨ (rSlA K x lo hi H Q ∨ rSlS x lo hi H Q)
theorem je_sl {lo hi : Option Expr} {ml mh : Env → RO} {p2 : Pos} (h : JE K cl E X a ma) (hl : JO K cl E X lo ml) (hh : JO K cl E X hi mh) : JE K cl E X (.Subscript a (.Slice lo hi none p2) pos) (mSl ma ml mh) := by
  obtain ⟨hKh, t, p, s⟩ := h
  obtain ⟨hKhl, t1, p1, s1⟩ := hl
  obtain ⟨hKhh, t2, p2, s2⟩ := hh
  refine ⟨hKh, _, fun ξ => pe_slice (r := rSlU K) (by rw [← hKh ξ]; exact sl_list.or (sl_tupA.or sl_str)) (p ξ) (p1 ξ) (p2 ξ), fun σ H e A1 st Q k => ?_⟩
  refine s.d st ?_
  unfold mSl at k
  cases q : ma e with
  | bad => rw [q] at k; exact k
  | exc x => rw [q] at k; exact k
  | ok t' =>
    rw [q] at k
    intro v H1 u1 r1
    refine s1 σ H1 e A1 (st.up u1) _ ?_
    cases ql : ml e with
    | bad => rw [ql] at k; exact k
    | exc x => rw [ql] at k; exact ExP.up u1 k
    | ok lo =>
      rw [ql] at k
      intro H2 u2
      refine s2 σ H2 e A1 ((st.up u1).up u2) _ ?_
      cases qh : mh e with
      | bad => rw [qh] at k; exact k
      | exc x => rw [qh] at k; exact ExP.up (u1.trans u2) k
      | ok hi =>
        rw [qh] at k
        simp only at k
        intro H3 u3
        have r3 := r1.mono (hd_same (A := A1) (A' := A1) (u2.trans u3) fun a ha => .inl ha)
        have u := (u1.trans u2).trans u3
        have o3 : ∀ a ∈ A1, Ow (H3 a) := fun a ha => (st.1 a ha).same u
        cases qd : dSl t'.toD lo hi with
        | none => rw [qd] at k; exact k.elim
        | some w =>
          rw [qd] at k
          unfold dSl at qd
          split at qd
          · rename_i xs et
            cases qd
            rw [et] at r3
            cases r3 with
            | lst h1 h2 => exact .inl ⟨_, _, rfl, sqL_hid h1, fun p hp => OkP.newLp k u hp (h2.cut lo hi)⟩
          · rename_i xs et
            cases qd
            rw [et] at r3
            cases r3 with
            | tup h1 h2 =>
              refine .inr (.inl ⟨_, _, rfl, sqT_hid h1, fun hw => ?_, fun hw p hp => OkP.newT k u st.1 hp (h2.cut lo hi)⟩)
              rw [h2.length] at hw
              rw [cut_whole hw] at k
              exact OkP.pure k u (.tup h1 h2)
          · rename_i x et
            split at qd
            · rename_i hz
              cases qd
              rw [et] at r3
              cases r3
              exact .inr (.inr ⟨_, rfl, hz, OkP.pure k u (.str _)⟩)
            · cases qd
          · cases qd
end
end Nd

namespace Nd
open PySem PySem.Spec PyProof.Rows L2

/-! ### statements -/
structure Cn where
  B : List Addr
  H0 : Hp
  Γ : Hp → Prop
  up : ∀ H H', Same H H' → Γ H → Γ H'
  bs : ∀ b ∈ B, Ow (H0 b)
section
variable (K : PySem.W.Frag) (cl : Cl)
def SRA (c : Cn) (σ : L2.St) (H : Hp) (e : Env) (A : List Addr) : Prop := A.Nodup ∧ (∀ a ∈ A, c.H0 a = none) ∧ Same c.H0 H ∧ c.Γ (hd H (c.B ++ A)) ∧ RSl K cl (hd H (c.B ++ A)) H σ e A
def SR (c : Cn) (σ : L2.St) (H : Hp) (e : Env) : Prop := ∃ A, SRA K cl c σ H e A
def RetP (c : Cn) (H : Hp) (v : V) (t : T) : Prop := ∃ F, F.Nodup ∧ (∀ a ∈ F, c.H0 a = none) ∧ Same c.H0 H ∧ RT K cl (hd H (c.B ++ F)) H v t F
def SPost (c : Cn) (E : L2.St → XK) (D : Ends) : R → Prop
  | .nx e => ∀ σ H, SR K cl c σ H e → D.nx σ H
  | .bk e => ∀ σ H, SR K cl c σ H e → D.bk σ H
  | .ct e => ∀ σ H, SR K cl c σ H e → D.ct σ H
  | .rt t => ∀ v H, RetP K cl c H v t → D.rt v H
  | .exc x e => ∀ σ H cv d, SR K cl c σ H e → ExcRep cl x cv d H → E σ cv d H
  | .bad => False
def SS (E : L2.St → XK) (ts : TS) (m : MS) : Prop := ∀ c σ H e, SR K cl c σ H e → ∀ D, SPost K cl c E D (m e) → ts D σ H
end
section
variable {K : PySem.W.Frag} {cl : Cl} {E : L2.St → XK} {c : Cn} {σ : L2.St} {H H' : Hp} {e : Env} {A : List Addr}
theorem SRA.ste (h : SRA K cl c σ H e A) : StE K cl σ H e (c.B ++ A) := by
  obtain ⟨nd, f, s, g, r⟩ := h
  exact ⟨fun a ha => (List.mem_append.mp ha).elim (fun z => (c.bs a z).same s) (r.ow a), A, nd, fun a ha => List.mem_append_right _ ha, r⟩
/-- an expression later -/
theorem SRA.up (s2 : Same H H') (h : SRA K cl c σ H e A) : SRA K cl c σ H' e A := by
  obtain ⟨nd, f, s, g, r⟩ := h
  have q := hd_same (A := c.B ++ A) (A' := c.B ++ A) s2 fun a ha => .inl ha
  refine ⟨nd, f, s.trans s2, c.up _ _ q g, r.mono q fun b hb => ?_⟩
  cases z : H b with
  | none => exact absurd z (r.dom b hb)
  | some u => exact s2 b u z
/-- a slot is stored -/
theorem SRA.set (h : SRA K cl c σ H e A) {v : V} {t : T} {F : List Addr} {H2 : Hp} (s2 : Same H H2) (fr : ∀ a ∈ F, H a = none) (nf : F.Nodup) (r : RT K cl (hd H2 (c.B ++ A ++ F)) H2 v t F) {i : Nat} (hi : i < e.length) :
    SR K cl c (σ.set i (some v)) H2 (e.set i (some t)) := by
  have h2 := h.up s2
  obtain ⟨nd, f, s, g, rs⟩ := h2
  have le : ∀ A' : List Addr, (∀ b ∈ A', b ∈ A ∨ b ∈ F) → Same (hd H2 (c.B ++ A ++ F)) (hd H2 (c.B ++ A')) := fun A' sub => hd_same (Same.refl _) fun a ha => .inl (by
    rcases List.mem_append.mp ha with z | z
    · exact List.mem_append_left _ (List.mem_append_left _ z)
    · rcases sub a z with z | z
      · exact List.mem_append_left _ (List.mem_append_right _ z)
      · exact List.mem_append_right _ z)
  have nF : ∀ b ∈ F, b ∉ A := fun b hb z => (h.2.2.2.2.dom b z) (fr b hb)
  have r1 : RSl K cl (hd H2 (c.B ++ A)) H2 σ e A := rs
  have s0 : Same c.H0 H := h.2.2.1
  -- everything over the heap that hides B, A and F
  have r2 : RSl K cl (hd H (c.B ++ A)) H2 σ e A := h.2.2.2.2.mono (Same.refl _) fun b hb => by
    cases z : H b with
    | none => exact absurd z (h.2.2.2.2.dom b hb)
    | some u => exact s2 b u z
  have e1 : Same (hd H (c.B ++ A)) (hd H2 (c.B ++ A ++ F)) := hd_same s2 fun a ha => (List.mem_append.mp ha).elim .inl fun z => .inr (fr a z)
  have r3 := r2.mono (H' := H2) e1 fun _ _ => rfl
  obtain ⟨A', q1, q2, q3⟩ := r3.set (i := i) r hi nd nf nF
  refine ⟨A', q2, fun a ha => ?_, s, ?_, q1.mono (le A' q3) fun _ _ => rfl⟩
  · rcases q3 a ha with z | z
    · exact f a z
    · exact s0.free (fr a z)
  · exact c.up _ _ (e1.trans (le A' q3)) h.2.2.2.1
theorem SR.exc {x : Xn} {D : Ends} {m : R} (h : SRA K cl c σ H e A) (k : SPost K cl c E D (.exc x e)) : ExP cl (E σ) H x := fun cv d H2 s r => k σ H2 cv d ⟨A, h.up s⟩ r
end

section
variable {ι : Type} (K : PySem.W.Frag) (cl : Cl) (E : L2.St → XK) (X : ι → Cx)
def JS (st : Stmt) (m : MS) : Prop := (∀ ξ, (X ξ).K = K) ∧ ∃ t, (∀ ξ, PS (X ξ) st t) ∧ SS K cl E t m
def JSs (sts : List Stmt) (m : MS) : Prop := (∀ ξ, (X ξ).K = K) ∧ ∃ t, (∀ ξ, PSs (X ξ) sts t) ∧ SS K cl E t m
end

section
variable {K : PySem.W.Frag} {cl : Cl} {E : L2.St → XK} {ι : Type} {X : ι → Cx} {a b : Expr} {ma mb : ME} {pos pos' : Pos} {st : Stmt} {rest : List Stmt}
def mSeq (m n : MS) : MS := fun e => match m e with
  | .nx e' => n e'
  | r => r
theorem js_cons {m n : MS} (h : JS K cl E X st m) (h2 : JSs K cl E X rest n) : JSs K cl E X (st :: rest) (mSeq m n) := by
  obtain ⟨hKh, t, p, s⟩ := h
  obtain ⟨hKh2, t2, p2, s2⟩ := h2
  refine ⟨hKh, _, fun ξ => pss_cons (p ξ) (p2 ξ), fun c σ H e hs D k => ?_⟩
  refine s c σ H e hs _ ?_
  unfold mSeq at k
  cases q : m e with
  | nx e' => rw [q] at k; exact fun σ' H' h' => s2 c σ' H' e' h' D k
  | bk e' => rw [q] at k; exact k
  | ct e' => rw [q] at k; exact k
  | rt t => rw [q] at k; exact k
  | exc x e' => rw [q] at k; exact k
  | bad => rw [q] at k; exact k
theorem js_one {m : MS} (h : JS K cl E X st m) : JSs K cl E X [st] m := by
  obtain ⟨hKh, t, p, s⟩ := h
  exact ⟨hKh, t, fun ξ => pss_one (p ξ), s⟩
def mNext : MS := fun e => .nx e
theorem js_nil (hK : ∀ ξ, (X ξ).K = K) : JSs K cl E X [] mNext := ⟨hK, _, fun ξ => pss_nil, fun c σ H e hs D k => k σ H hs⟩
theorem js_pass (hK : ∀ ξ, (X ξ).K = K) : JS K cl E X (.Pass pos) mNext := ⟨hK, _, fun ξ => ps_pass, fun c σ H e hs D k => k σ H hs⟩
theorem js_break (hK : ∀ ξ, (X ξ).K = K) : JS K cl E X (.Break pos) (fun e => .bk e) := ⟨hK, _, fun ξ => ps_break, fun c σ H e hs D k => k σ H hs⟩
theorem js_continue (hK : ∀ ξ, (X ξ).K = K) : JS K cl E X (.Continue pos) (fun e => .ct e) := ⟨hK, _, fun ξ => ps_continue, fun c σ H e hs D k => k σ H hs⟩
/-- a statement that is not followed: nothing is shown of it -/
theorem js_never (hK : ∀ ξ, (X ξ).K = K) : JS K cl E X st (fun _ => .bad) := ⟨hK, _, fun ξ => ps_never, fun c σ H e hs D k => k.elim⟩
/-- x = e -/
def mAsg (i : Nat) (m : ME) : MS := fun e => match m e with
  | .ok t => if i < e.length then .nx (e.set i (some t)) else .bad
  | .exc x => .exc x e
  | .bad => .bad
theorem ss_asg {K : PySem.W.Frag} {te : TE} {i : Nat} (s : SE K cl E te ma) : SS K cl E (tAsg te (gName i)) (mAsg i ma) := fun c σ H e hs D k => by
  obtain ⟨A, h⟩ := hs
  refine s σ H e _ h.ste _ ?_
  unfold mAsg at k
  cases q : ma e with
  | bad => rw [q] at k; exact k
  | exc x => rw [q] at k; exact fun cv d H2 s2 r => k σ H2 cv d ⟨A, h.up s2⟩ r
  | ok t =>
    rw [q] at k
    simp only at k
    by_cases hi : i < e.length
    · rw [if_pos hi] at k
      exact fun v H2 F s2 f nd r => k _ _ (h.set s2 f nd r hi)
    · rw [if_neg hi] at k; exact k.elim
theorem js_set {i : Nat} {x : Str} (hN : ∀ ξ, (X ξ).N.Nodup) (h : JE K cl E X a ma) (hi : ∀ ξ, (X ξ).N[i]? = some x := by intro _; rfl) (hx : ∀ ξ, Loc (X ξ).env.scope x := by intro _; first | exact Or.inl rfl | exact Or.inr rfl) (hs : ∀ ξ, swapsWith a (some (.Name x pos')) pos.line (X ξ).env = pure false := by intro _; rfl) (hf : ∀ ξ, (X ξ).fn x = true ∨ (X ξ).env.scope.names.lookup x = some .local := by intro _; first | exact .inl rfl | exact .inr rfl) : JS K cl E X (.Assign [.Name x pos'] a pos) (mAsg i ma) := by
  obtain ⟨hKh, t, p, s⟩ := h
  exact ⟨hKh, _, fun ξ => ps_set (hN ξ) (hi ξ) (hx ξ) (p ξ) (hs ξ) (hf ξ), ss_asg s⟩
/-- e -/
def mDrop (m : ME) : MS := fun e => match m e with
  | .ok _ => .nx e
  | .exc x => .exc x e
  | .bad => .bad
theorem js_expr (h : JE K cl E X a ma) (hs : ∀ ξ, swapsWith a none pos.line (X ξ).env = pure false := by intro _; rfl) : JS K cl E X (.Expr a pos) (mDrop ma) := by
  obtain ⟨hKh, t, p, s⟩ := h
  refine ⟨hKh, _, fun ξ => ps_expr (p ξ) (hs ξ), fun c σ H e hs D k => ?_⟩
  obtain ⟨A, h⟩ := hs
  refine s.d h.ste ?_
  unfold mDrop at k
  cases q : ma e with
  | bad => rw [q] at k; exact k
  | exc x => rw [q] at k; exact fun cv d H2 s2 r => k σ H2 cv d ⟨A, h.up s2⟩ r
  | ok t => rw [q] at k; exact fun v H2 s2 r => k σ H2 ⟨A, h.up s2⟩
/-- return e -/
def mRet (m : ME) : MS := fun e => match m e with
  | .ok t => .rt t
  | .exc x => .exc x e
  | .bad => .bad
theorem js_ret (h : JE K cl E X a ma) : JS K cl E X (.Return (some a) pos) (mRet ma) := by
  obtain ⟨hKh, t, p, s⟩ := h
  refine ⟨hKh, _, fun ξ => ps_ret (p ξ), fun c σ H e hs D k => ?_⟩
  obtain ⟨A, h⟩ := hs
  refine s σ H e _ h.ste _ ?_
  unfold mRet at k
  cases q : ma e with
  | bad => rw [q] at k; exact k
  | exc x => rw [q] at k; exact fun cv d H2 s2 r => k σ H2 cv d ⟨A, h.up s2⟩ r
  | ok t =>
    rw [q] at k
    intro v H2 F s2 f nd r
    refine k v H2 ⟨F, nd, fun a ha => h.2.2.1.free (f a ha), h.2.2.1.trans s2, r.mono (hd_same (Same.refl _) fun a ha => .inl ?_) fun _ _ => rfl⟩
    rcases List.mem_append.mp ha with z | z
    · exact List.mem_append_left _ (List.mem_append_left _ z)
    · exact List.mem_append_right _ z
theorem js_retN (hK : ∀ ξ, (X ξ).K = K) : JS K cl E X (.Return none pos) (fun _ => .rt (.p .non)) := ⟨hK, _, fun ξ => ps_retN, fun c σ H e hs D k => by
  obtain ⟨A, h⟩ := hs
  exact k .non H ⟨[], List.nodup_nil, fun a ha => by simp at ha, h.2.2.1, .p .non⟩⟩
/-- return x, x owned -/
def mRetV (i : Nat) : MS := fun e => match e[i]? with
  | some (some t) => .rt t
  | _ => .bad
theorem js_retV (hK : ∀ ξ, (X ξ).K = K) (i : Nat) {x : Str} (h : ∀ ξ, PE (X ξ) (.Name x pos') (tVar i)) : JS K cl E X (.Return (some (.Name x pos')) pos) (mRetV i) := by
  refine ⟨hK, _, fun ξ => ps_ret (h ξ), fun c σ H e hs D k => ?_⟩
  obtain ⟨A, nd, f, s, g, r⟩ := hs
  unfold mRetV at k
  cases q : e[i]? with
  | none => rw [q] at k; exact k.elim
  | some o =>
    cases o with
    | none => rw [q] at k; exact k.elim
    | some t =>
      rw [q] at k
      obtain ⟨v, F, A1, A2, h1, h2, h3, _⟩ := r.at nd q
      have sub : ∀ b ∈ F, b ∈ A := fun b hb => by rw [h2]; exact List.mem_append_left _ (List.mem_append_right _ hb)
      rw [h2] at nd
      refine ⟨v, h1, k v H ⟨F, (List.nodup_append.mp (List.nodup_append.mp nd).1).2.1, fun a ha => f a (sub a ha), s, h3.mono (hd_same (Same.refl _) fun a ha => .inl ?_) fun _ _ => rfl⟩⟩
      rcases List.mem_append.mp ha with z | z
      · exact List.mem_append_left _ z
      · exact List.mem_append_right _ (sub a z)
/-- if -/
def mIfS (c : MB) (m n : MS) : MS := fun e => match c e with
  | .ok true => m e
  | .ok false => n e
  | .exc x => .exc x e
  | .bad => .bad
theorem js_if {mc : MB} {m n : MS} {sa sb : List Stmt} (hc : JB K cl E X a mc) (h1 : JSs K cl E X sa m) (h2 : JSs K cl E X sb n) : JS K cl E X (.If a sa sb pos) (mIfS mc m n) := by
  obtain ⟨hKhc, t, p, s⟩ := hc
  obtain ⟨hKh1, t1, p1, s1⟩ := h1
  obtain ⟨hKh2, t2, p2, s2⟩ := h2
  refine ⟨hKhc, _, fun ξ => ps_if (p ξ) (p1 ξ) (p2 ξ), fun c σ H e hs D k => ?_⟩
  obtain ⟨A, h⟩ := hs
  refine s σ H e _ h.ste _ ?_
  unfold mIfS at k
  cases q : mc e with
  | bad => rw [q] at k; exact k
  | exc x => rw [q] at k; exact fun cv d H2 s2 r => k σ H2 cv d ⟨A, h.up s2⟩ r
  | ok b =>
    rw [q] at k
    intro H2 u
    cases b with
    | true => exact iteT (s1 c σ H2 e ⟨A, h.up u⟩ D k)
    | false => exact iteF (s2 c σ H2 e ⟨A, h.up u⟩ D k)
/-- x op= e of numbers and texts -/
def mAug (f : D → D → Option T) (i : Nat) (m : ME) : MS := fun e => match e[i]? with
  | some (some (.p d)) => (match m e with
    | .ok t => (match f d t.toD with
      | some u => if i < e.length then .nx (e.set i (some u)) else .bad
      | none => .bad)
    | .exc x => .exc x e
    | .bad => .bad)
  | _ => .bad
theorem js_aug {op : Operator} {r : R2} {f : D → D → Option T} {i : Nat} {x : Str} (ho : ∀ ξ, OpR (X ξ) (inplaceOp op) r) (hs : OpSem K cl r f) (hN : ∀ ξ, (X ξ).N.Nodup) (h : JE K cl E X a ma) (hi : ∀ ξ, (X ξ).N[i]? = some x := by intro _; rfl) (hx : ∀ ξ, Loc (X ξ).env.scope x := by intro _; first | exact Or.inl rfl | exact Or.inr rfl) (hf : ∀ ξ, (X ξ).fn x = true ∨ (X ξ).env.scope.names.lookup x = some .local := by intro _; first | exact .inl rfl | exact .inr rfl) : JS K cl E X (.AugAssign (.Name x pos') op a pos) (mAug f i ma) := by
  obtain ⟨hKh, t, p, s⟩ := h
  refine ⟨hKh, _, fun ξ => ps_aug (ti := fun x y H Q => r x y H Q) (hN ξ) (hi ξ) (hx ξ) (p ξ) (fun pins s σ H x y v u Q I r1 r2 h => (ho ξ) pins s σ H x y v u Q I r1 r2 h) (hf ξ), fun c σ H e hs' D k => ?_⟩
  obtain ⟨A, h⟩ := hs'
  unfold mAug at k
  cases q : e[i]? with
  | none => rw [q] at k; exact k.elim
  | some o =>
    cases o with
    | none => rw [q] at k; exact k.elim
    | some t0 =>
      rw [q] at k
      cases t0 with
      | l ts => exact k.elim
      | k ks ts => exact k.elim
      | i C ks ts tg => exact k.elim
      | p d =>
        simp only at k
        obtain ⟨v, F, h1, h2, _⟩ := h.2.2.2.2.get q
        cases h2 with
        | p h2 =>
          refine ⟨v, h1, ?_⟩
          refine s.d h.ste ?_
          cases q1 : ma e with
          | bad => rw [q1] at k; exact k
          | exc x => rw [q1] at k; exact fun cv d H2 s2 r => k σ H2 cv d ⟨A, h.up s2⟩ r
          | ok t' =>
            rw [q1] at k
            intro u H2 s2 r2
            cases q2 : f d t'.toD with
            | none => simp only [q2] at k; exact k.elim
            | some w =>
              simp only [q2] at k
              by_cases hi' : i < e.length
              · rw [if_pos hi'] at k
                exact hs H2 _ (fun a ha => (h.ste.1 a ha).same s2) v u d t'.toD w (h2.mono (hd_same s2 fun a ha => .inl ha)) r2 q2 _ fun z H3 F3 s3 f3 nd3 r3 => k _ _ ((h.up s2).set s3 f3 nd3 r3 hi')
              · rw [if_neg hi'] at k; exact k.elim

/-! ### what is owned is let go of, is lent -/
def mFrz (i : Nat) (m : MS) : MS := fun e => match e[i]? with
  | some (some t) => m (e.set i (some (.p t.toD)))
  | _ => .bad
theorem SRA.frz {K : PySem.W.Frag} {c : Cn} {σ : L2.St} {H : Hp} {e : Env} {A : List Addr} (h : SRA K cl c σ H e A) {i : Nat} {t : T} (q : e[i]? = some (some t)) : SR K cl c σ H (e.set i (some (.p t.toD))) := by
  obtain ⟨nd, f, s, g, r⟩ := h
  obtain ⟨v, F, A1, A2, h1, rfl, h3, h4⟩ := r.at nd q
  have ss : Same (hd H (c.B ++ (A1 ++ F ++ A2))) (hd H (c.B ++ (A1 ++ [] ++ A2))) := hd_same (Same.refl _) fun a ha => .inl (by
    rcases List.mem_append.mp ha with z | z
    · exact List.mem_append_left _ z
    · refine List.mem_append_right _ ?_
      rw [List.append_nil] at z
      rcases List.mem_append.mp z with z | z
      · exact List.mem_append_left _ (List.mem_append_left _ z)
      · exact List.mem_append_right _ z)
  have nd1 := List.nodup_append.mp nd
  have nd2 := List.nodup_append.mp nd1.1
  refine ⟨A1 ++ [] ++ A2, ?_, fun a ha => f a ?_, s, c.up _ _ ss g, h4 _ _ _ _ ss (fun b _ _ => rfl) (.p (h3.freeze ss fun b hb => hd_of fun z => ?_))⟩
  · rw [List.append_nil]
    exact List.nodup_append.mpr ⟨nd2.1, nd1.2.1, fun x hx y hy => nd1.2.2 x (List.mem_append_left _ hx) y hy⟩
  · rw [List.append_nil] at ha
    rcases List.mem_append.mp ha with z | z
    · exact List.mem_append_left _ (List.mem_append_left _ z)
    · exact List.mem_append_right _ z
  · rcases List.mem_append.mp z with z | z
    · exact (c.bs b z).ne (f b (List.mem_append_left _ (List.mem_append_right _ hb)))
    · rw [List.append_nil] at z
      rcases List.mem_append.mp z with z | z
      · exact nd2.2.2 b z b hb rfl
      · exact nd1.2.2 b (List.mem_append_right _ hb) b z rfl
theorem js_frz {m : MS} (i : Nat) (h : JS K cl E X st m) : JS K cl E X st (mFrz i m) := by
  obtain ⟨hKh, t, p, s⟩ := h
  refine ⟨hKh, t, fun ξ => (p ξ), fun c σ H e hs D k => ?_⟩
  obtain ⟨A, h⟩ := hs
  unfold mFrz at k
  cases q : e[i]? with
  | none => rw [q] at k; exact k.elim
  | some o =>
    cases o with
    | none => rw [q] at k; exact k.elim
    | some t => rw [q] at k; exact s c σ H _ (h.frz q) D k
mutual
def D.im : D → Bool
  | .lst _ => false
  | .dk _ _ => false
  | .tup ds => D.ims ds
  | .ins _ _ _ => false
  | .ex _ _ _ => true
  | _ => true
def D.ims : List D → Bool
  | [] => true
  | d :: ds => d.im && D.ims ds
end
section
variable {K : PySem.W.Frag} {H : Hp} {A A' : List Addr}
theorem hd_im (o : ∀ a ∈ A', Ow (H a)) {a : Addr} {ob : HO} (n : ¬ Ow (some ob)) (h : hd H A a = some ob) : hd H A' a = some ob := by
  obtain ⟨_, h2⟩ := hd_some.mp h
  refine hd_some.mpr ⟨fun z => n ?_, h2⟩
  have q := o a z
  rw [h2] at q
  exact q
mutual
theorem Rp.im (o : ∀ a ∈ A', Ow (H a)) {v : V} {d : D} (h : Rp K cl (hd H A) v d) (i : d.im = true) : Rp K cl (hd H A') v d := by
  cases h with
  | non => exact .non
  | bl b => exact .bl b
  | int j => exact .int j
  | str x => exact .str x
  | ty n => exact .ty n
  | cls C => exact .cls C
  | ex h1 => exact .ex (hd_im o (fun z => z) h1)
  | lst h1 h2 => simp [D.im] at i
  | dk h1 h2 h3 => simp [D.im] at i
  | tup h1 h2 =>
    refine .tup ?_ (RpA.im o h2 (by simpa [D.im] using i))
    rcases h1 with (h1 | ⟨ob, h1⟩) | h1
    · exact .inl (.inl (hd_im o (fun z => z) h1))
    · exact .inl (.inr ⟨ob, hd_im o (fun z => z) h1⟩)
    · exact .inr h1
  | ins h1 h2 h3 => simp [D.im] at i
theorem RpA.im (o : ∀ a ∈ A', Ow (H a)) {vs : List V} {ds : List D} (h : RpA K cl (hd H A) vs ds) (i : D.ims ds = true) : RpA K cl (hd H A') vs ds := by
  cases h with
  | nil => exact .nil
  | cons h1 h2 =>
    simp only [D.ims, Bool.and_eq_true] at i
    exact .cons (Rp.im o h1 i.1) (RpA.im o h2 i.2)
end
end
mutual
/-- no tree's data may change under it -/
def T.im : T → Bool
  | .p d => d.im
  | .l ts => T.ims ts
  | .k _ ts => T.ims ts
  | .i _ _ ts _ => T.ims ts
def T.ims : List T → Bool
  | [] => true
  | t :: ts => t.im && T.ims ts
end
section
variable {K : PySem.W.Frag} {H : Hp} {A A' : List Addr}
mutual
theorem RT.im (o : ∀ a ∈ A', Ow (H a)) {v : V} {t : T} {F : List Addr} (h : RT K cl (hd H A) H v t F) (i : t.im = true) : RT K cl (hd H A') H v t F := by
  cases h with
  | p h1 => exact .p (Rp.im o h1 (by simpa [T.im] using i))
  | l h1 h2 => exact .l h1 (RTs.im o h2 (by simpa [T.im] using i))
  | k h1 h2 h3 => exact .k h1 h2 (RTs.im o h3 (by simpa [T.im] using i))
  | i h1 h2 h3 h4 => exact .i h1 h2 (RTs.im o h3 (by simpa [T.im] using i)) h4
theorem RTs.im (o : ∀ a ∈ A', Ow (H a)) {vs : List V} {ts : List T} {F : List Addr} (h : RTs K cl (hd H A) H vs ts F) (i : T.ims ts = true) : RTs K cl (hd H A') H vs ts F := by
  cases h with
  | nil => exact .nil
  | cons h1 h2 =>
    simp only [T.ims, Bool.and_eq_true] at i
    exact .cons (RT.im o h1 i.1) (RTs.im o h2 i.2)
end
end
def frzE (e : Env) : Env := e.map fun o => o.map fun t => T.p t.toD
theorem RSl.frz {K : PySem.W.Frag} {H : Hp} {A : List Addr} {σ : L2.St} {e : Env} {G : Hp} (s : Same G H) (r : RSl K cl G H σ e A) : RSl K cl (hd H []) H σ (frzE e) [] := by
  induction r with
  | nil => exact .nil
  | skip _ ih => exact .skip ih
  | cons h1 _ ih =>
    have q := RSl.cons (F := []) (.p (h1.freeze (G' := hd H []) (by rw [hd_nil]; exact s) fun b hb => by rw [hd_nil])) ih
    exact q
/-- an expression over lent slots -/
def mBw (m : ME) : ME := fun e => match m (frzE e) with
  | .ok t => if t.im = true then .ok t else .bad
  | r => r
theorem se_bw {K : PySem.W.Frag} {te : TE} {m : ME} (h : SE K cl E te m) : SE K cl E te (mBw m) := fun σ H e A1 st Q k => by
  obtain ⟨o, A, nd, sub, r⟩ := st
  refine h σ H (frzE e) [] ⟨fun a ha => by simp at ha, [], List.nodup_nil, fun a ha => ha, r.frz hd_le⟩ Q ?_
  unfold mBw at k
  cases q : m (frzE e) with
  | bad => rw [q] at k; exact k
  | exc x => rw [q] at k; exact k
  | ok t =>
    rw [q] at k
    simp only at k
    by_cases hi : t.im = true
    · rw [if_pos hi] at k
      intro v H2 F s f n r2
      refine k v H2 F s f n (r2.im (fun a ha => ?_) hi)
      rcases List.mem_append.mp ha with z | z
      · exact (o a z).same s
      · exact r2.ow a z
    · rw [if_neg hi] at k; exact k.elim
theorem je_bw (h : JE K cl E X a ma) : JE K cl E X a (mBw ma) := by
  obtain ⟨hKh, t, p, s⟩ := h
  exact ⟨hKh, t, fun ξ => (p ξ), se_bw s⟩
def mBwB (m : MB) : MB := fun e => m (frzE e)
theorem jb_bw {m : MB} (h : JB K cl E X a m) : JB K cl E X a (mBwB m) := by
  obtain ⟨hKh, t, p, s⟩ := h
  refine ⟨hKh, t, fun ξ => (p ξ), fun σ H e A1 st Q k => ?_⟩
  obtain ⟨o, A, nd, sub, r⟩ := st
  exact s σ H (frzE e) [] ⟨fun a ha => by simp at ha, [], List.nodup_nil, fun a ha => ha, r.frz hd_le⟩ Q k
end
end Nd

namespace Nd
open PySem PySem.Spec PyProof.Rows L2

/-! ### targets -/
def Agree (ns : List Nat) (σ σ1 : L2.St) : Prop := σ1.length = σ.length ∧ ∀ j, j ∉ ns → σ1[j]? = σ[j]?
theorem Agree.refl (ns : List Nat) (σ : L2.St) : Agree ns σ σ := ⟨rfl, fun _ _ => rfl⟩
theorem Agree.trans {ns : List Nat} {σ σ1 σ2 : L2.St} (a : Agree ns σ σ1) (b : Agree ns σ1 σ2) : Agree ns σ σ2 := ⟨b.1.trans a.1, fun j h => (b.2 j h).trans (a.2 j h)⟩
theorem wipe_at {σ : L2.St} : ∀ {vs : List Nat} {j : Nat}, (wipe σ vs)[j]? = if j ∈ vs ∧ j < σ.length then some none else σ[j]?
  | [], j => by simp [wipe]
  | v :: vs, j => by
    unfold wipe
    by_cases hj : j = v
    · subst hj
      by_cases hl : j < σ.length
      · rw [List.getElem?_set_self (by rw [wipe_length]; exact hl), if_pos ⟨List.mem_cons_self, hl⟩]
      · rw [if_neg (fun z => hl z.2), List.getElem?_eq_none (by rw [List.length_set, wipe_length]; omega), List.getElem?_eq_none (by omega)]
    · rw [List.getElem?_set_ne (Ne.symm hj), wipe_at (vs := vs)]
      have e : (j ∈ vs ∧ j < σ.length) ↔ (j ∈ v :: vs ∧ j < σ.length) := by simp [hj]
      by_cases h : j ∈ vs ∧ j < σ.length
      · rw [if_pos h, if_pos (e.mp h)]
      · rw [if_neg h, if_neg (fun z => h (e.mpr z))]
theorem wipe_agree {vs ns : List Nat} (hs : ∀ n ∈ ns, n ∈ vs) {σ σ1 : L2.St} (a : Agree ns (wipe σ vs) σ1) : wipe σ1 vs = wipe σ vs := by
  obtain ⟨hl, h⟩ := a
  rw [wipe_length] at hl
  refine List.ext_getElem? fun j => ?_
  rw [wipe_at, wipe_at, hl]
  by_cases hj : j ∈ vs ∧ j < σ.length
  · rw [if_pos hj, if_pos hj]
  · rw [if_neg hj, if_neg hj]
    by_cases hv : j ∈ vs
    · have hlt : ¬ j < σ.length := fun z => hj ⟨hv, z⟩
      rw [List.getElem?_eq_none (by omega), List.getElem?_eq_none (by omega)]
    · rw [h j fun z => hv (hs j z), wipe_at, if_neg hj]

def SG (K : PySem.W.Frag) (cl : Cl) (g : TG) (mt : D → Env → Option Env) (ns : List Nat) : Prop := ∀ G H σ e A, RSl K cl G H σ e A → A.Nodup → Same G H → ∀ x d e1, Rp K cl G x d → mt d e = some e1 →
  ∀ Q : L2.St → Hp → Prop, (∀ σ1 A', RSl K cl G H σ1 e1 A' → A'.Nodup → (∀ a ∈ A', a ∈ A) → Agree ns σ σ1 → Q σ1 H) → g x σ H Q
def SGs (K : PySem.W.Frag) (cl : Cl) (g : TGs) (mt : List D → Env → Option Env) (ns : List Nat) : Prop := ∀ G H σ e A, RSl K cl G H σ e A → A.Nodup → Same G H → ∀ xs ds e1, RpA K cl G xs ds → mt ds e = some e1 →
  ∀ Q : L2.St → Hp → Prop, (∀ σ1 A', RSl K cl G H σ1 e1 A' → A'.Nodup → (∀ a ∈ A', a ∈ A) → Agree ns σ σ1 → Q σ1 H) → g xs σ H Q
def JG (K : PySem.W.Frag) (cl : Cl) {ι : Type} (X : ι → Cx) (tg : Expr) (mt : D → Env → Option Env) (ns : List Nat) : Prop := (∀ ξ, (X ξ).K = K) ∧ ∃ g, (∀ ξ, PG (X ξ) tg g) ∧ SG K cl g mt ns
def JGs (K : PySem.W.Frag) (cl : Cl) {ι : Type} (X : ι → Cx) (tgs : List Expr) (mt : List D → Env → Option Env) (ns : List Nat) : Prop := (∀ ξ, (X ξ).K = K) ∧ ∃ g, (∀ ξ, PGs (X ξ) tgs g) ∧ SGs K cl g mt ns
def gN (i : Nat) : D → Env → Option Env := fun d e => if i < e.length then some (e.set i (some (.p d))) else none
def gT (n : Nat) (m : List D → Env → Option Env) : D → Env → Option Env := fun d e => match d with
  | .tup ds => if ds.length = n then m ds e else none
  | _ => none
def gNl : List D → Env → Option Env := fun ds e => match ds with
  | [] => some e
  | _ => none
def gC (m : D → Env → Option Env) (ms : List D → Env → Option Env) : List D → Env → Option Env := fun ds e => match ds with
  | [] => none
  | d :: ds => match m d e with
    | some e1 => ms ds e1
    | none => none
section
variable {K : PySem.W.Frag} {cl : Cl} {ι : Type} {X : ι → Cx} {pos : Pos}
theorem sg_name (i : Nat) : SG K cl (gName i) (gN i) [i] := fun G H σ e A r nd s x d e1 rx em Q k => by
  unfold gN at em
  by_cases hi : i < e.length
  · rw [if_pos hi] at em
    cases em
    obtain ⟨A', q1, q2, q3⟩ := r.set (i := i) (F := []) (.p rx) hi nd List.nodup_nil (fun b hb => by simp at hb)
    exact k _ A' q1 q2 (fun a ha => (q3 a ha).elim id fun z => by simp at z) ⟨by simp, fun j hj => List.getElem?_set_ne (fun z => hj (by simp [z]))⟩
  · rw [if_neg hi] at em; cases em
theorem sgs_nil (ns : List Nat) : SGs K cl gNil gNl ns := fun G H σ e A r nd s xs ds e1 rx em Q k => by
  cases rx with
  | nil => cases em; exact ⟨rfl, k σ A r nd (fun a ha => ha) (Agree.refl _ _)⟩
  | cons _ _ => cases em
theorem sgs_cons {g : TG} {gs : TGs} {m : D → Env → Option Env} {ms : List D → Env → Option Env} {n1 n2 ns : List Nat} (h : SG K cl g m n1) (h2 : SGs K cl gs ms n2) (s1 : ∀ n ∈ n1, n ∈ ns) (s2 : ∀ n ∈ n2, n ∈ ns) : SGs K cl (gCons g gs) (gC m ms) ns :=
  fun G H σ e A r nd s xs ds e1 rx em Q k => by
    cases rx with
    | nil => cases em
    | cons r1 r2 =>
      rename_i d ds
      unfold gC at em
      cases q : m d e with
      | none => simp only [q] at em; cases em
      | some e2 =>
        simp only [q] at em
        refine ⟨_, _, rfl, h G H σ e A r nd s _ _ e2 r1 q _ fun σ1 A1 q1 q2 q3 q4 => ?_⟩
        refine h2 G H σ1 e2 A1 q1 q2 s _ _ e1 r2 em _ fun σ2 A2 p1 p2 p3 p4 => k σ2 A2 p1 p2 (fun a ha => q3 a (p3 a ha)) ?_
        exact Agree.trans ⟨q4.1, fun j hj => q4.2 j fun z => hj (s1 j z)⟩ ⟨p4.1, fun j hj => p4.2 j fun z => hj (s2 j z)⟩
theorem sg_tup {n : Nat} {gs : TGs} {ms : List D → Env → Option Env} {ns : List Nat} (h : SGs K cl gs ms ns) : SG K cl (gTup K n gs) (gT n ms) ns := fun G H σ e A r nd s x d e1 rx em Q k => by
  cases rx with
  | tup h1 h2 =>
    rename_i a vs ds
    simp only [gT] at em
    by_cases hl : ds.length = n
    · rw [if_pos hl] at em
      exact ⟨_, _, rfl, sqT_same s h1, by rw [h2.length]; exact hl, h G H σ e A r nd s _ _ e1 h2 em Q k⟩
    · rw [if_neg hl] at em; cases em
  | _ => simp only [gT] at em; cases em
theorem jg_name (hK : ∀ ξ, (X ξ).K = K) (i : Nat) {x : Str} (hN : ∀ ξ, (X ξ).N.Nodup) (hi : ∀ ξ, (X ξ).N[i]? = some x := by intro _; rfl) (hx : ∀ ξ, Loc (X ξ).env.scope x := by intro _; first | exact Or.inl rfl | exact Or.inr rfl) (hf : ∀ ξ, (X ξ).fn x = true ∨ (X ξ).env.scope.names.lookup x = some .local := by intro _; first | exact .inl rfl | exact .inr rfl) :
    JG K cl X (.Name x pos) (gN i) [i] := ⟨hK, gName i, fun ξ => pg_name (hN ξ) (hi ξ) (hx ξ) (hf ξ), sg_name i⟩
theorem jgs_nil (hK : ∀ ξ, (X ξ).K = K) {ns : List Nat} : JGs K cl X [] gNl ns := ⟨hK, gNil, fun _ => pgs_nil, sgs_nil ns⟩
theorem jgs_cons {e : Expr} {es : List Expr} {m : D → Env → Option Env} {ms : List D → Env → Option Env} {n1 n2 : List Nat} (h : JG K cl X e m n1) (h2 : JGs K cl X es ms n2)
    (hs : ∀ ξ, (assignEach (e :: es) (X ξ).env).map (·.2) = assign e (X ξ).env :: (assignEach es (X ξ).env).map (·.2) := by intro _; rfl) : JGs K cl X (e :: es) (gC m ms) (n1 ++ n2) := by
  obtain ⟨hK, g, p, s⟩ := h
  obtain ⟨_, g2, p2, s2⟩ := h2
  exact ⟨hK, _, fun ξ => pgs_cons (p ξ) (p2 ξ) (hs ξ), sgs_cons s s2 (fun n h => List.mem_append_left _ h) fun n h => List.mem_append_right _ h⟩
theorem jg_tup {es : List Expr} {k n : Nat} {ms : List D → Env → Option Env} {ns : List Nat} (hc : ∀ ξ, (X ξ).calm = true) (h : JGs K cl X es ms ns) (hn : ∀ ξ, (assignEach es (X ξ).env).length = n := by intro _; rfl) (hst : ∀ ξ, (assignEach es (X ξ).env).findIdx? (·.1) = none := by intro _; rfl) :
    JG K cl X (.Tuple es k pos) (gT n ms) ns := by
  obtain ⟨hK, g, p, s⟩ := h
  exact ⟨hK, gTup K n g, fun ξ => by rw [← hK ξ]; exact pg_tup (hc ξ) (p ξ) (hn ξ) (hst ξ), sg_tup s⟩

/-! ### what is gone over -/
/-- a walk that gives these data -/
structure Wk (K : PySem.W.Frag) (cl : Cl) (J : It) (ds : List D) (Γ : Hp → Prop) : Prop where
  ex : ∃ (G : Hp → Prop) (Y : Nat → Hp → V → Hp → Prop), Walk J ds.length G Y ∧ (∀ H A, (∀ a ∈ A, Ow (H a)) → Γ (hd H A) → G H) ∧
    (∀ i x H H' A, i < ds.length → (∀ a ∈ A, Ow (H a)) → Γ (hd H A) → Y i H x H' → Same H H' ∧ ∃ d, ds[i]? = some d ∧ Rp K cl (hd H' A) x d)
def IPost (K : PySem.W.Frag) (cl : Cl) (E : XK) (H : Hp) (A : List Addr) (Q : It → Hp → Prop) : RL → Prop
  | .ok ds => ∀ J H1 Γ, Same H H1 → (∀ H H', Same H H' → Γ H → Γ H') → Γ (hd H1 A) → Wk K cl J ds Γ → Q J H1
  | .exc x => ExP cl E H x
  | .bad => False
def SI (K : PySem.W.Frag) (cl : Cl) (E : L2.St → XK) (wi : TI) (m : Env → RL) : Prop := ∀ σ H e A1, StE K cl σ H e A1 → ∀ Q, IPost K cl (E σ) H A1 Q (m e) → wi σ H Q
def JI (K : PySem.W.Frag) (cl : Cl) (E : L2.St → XK) {ι : Type} (X : ι → Cx) (tg iter : Expr) (m : Env → RL) : Prop := (∀ ξ, (X ξ).K = K) ∧ ∃ wi, (∀ ξ, PI (X ξ) tg iter wi) ∧ SI K cl E wi m
theorem pi_or {X : Cx} {tg iter : Expr} {w1 w2 : TI} (h1 : PI X tg iter w1) (h2 : PI X tg iter w2) : PI X tg iter (fun σ H R => w1 σ H R ∨ w2 σ H R) :=
  ⟨fun pins s σ H R I h => h.elim (h1.run pins s σ H R I) (h2.run pins s σ H R I)⟩
theorem wk_list {a : Addr} {vs : List V} {ds : List D} : Wk K cl (Itl K a) ds (fun H => SqL K H a vs ∧ RpA K cl H vs ds) := by
  by_cases hl : vs.length = ds.length
  · refine ⟨fun H => SqL K H a vs, YAt vs, hl ▸ walk_list, fun H A o h => sqL_hid h.1, fun i x H H' A hi o h y => ?_⟩
    obtain ⟨rfl, y⟩ := y
    obtain ⟨v, q1, q2⟩ := h.2.get (i := i) (List.getElem?_eq_getElem hi)
    rw [q1] at y
    cases y
    exact ⟨Same.refl _, _, List.getElem?_eq_getElem hi, q2⟩
  · exact ⟨fun H => SqL K H a vs ∧ RpA K cl H vs ds, fun _ _ _ _ => False, ⟨fun i H _ h => absurd h.2.length hl, fun H h => absurd h.2.length hl, fun i H x H' _ h => absurd h.2.length hl⟩, fun H A o h => absurd h.2.length hl, fun i x H H' A hi o h => absurd h.2.length hl⟩
theorem wk_tup {a : Addr} {vs : List V} {ds : List D} : Wk K cl (Itt K a) ds (fun H => SqT K H a vs ∧ RpA K cl H vs ds) := by
  by_cases hl : vs.length = ds.length
  · refine ⟨fun H => SqT K H a vs, YAt vs, hl ▸ walk_tup, fun H A o h => sqT_hid h.1, fun i x H H' A hi o h y => ?_⟩
    obtain ⟨rfl, y⟩ := y
    obtain ⟨v, q1, q2⟩ := h.2.get (i := i) (List.getElem?_eq_getElem hi)
    rw [q1] at y
    cases y
    exact ⟨Same.refl _, _, List.getElem?_eq_getElem hi, q2⟩
  · exact ⟨fun H => SqT K H a vs ∧ RpA K cl H vs ds, fun _ _ _ _ => False, ⟨fun i H _ h => absurd h.2.length hl, fun H h => absurd h.2.length hl, fun i H x H' _ h => absurd h.2.length hl⟩, fun H A o h => absurd h.2.length hl, fun i x H H' A hi o h => absurd h.2.length hl⟩
/-- a text's signs -/
def signs (x : Str) : List D := x.cps.toList.map fun c => D.str ⟨#[c]⟩
theorem wk_str {z : Str} : Wk K cl (Its z) (signs z) (fun _ => True) := by
  have hl : (signs z).length = z.cps.size := by unfold signs; simp
  refine ⟨fun _ => True, fun i H v H' => H' = H ∧ ∃ c, z.cps[i]? = some c ∧ v = .str ⟨#[c]⟩, by rw [hl]; exact walk_str, fun _ _ _ _ => trivial, fun i x H H' A hi o h y => ?_⟩
  obtain ⟨rfl, c, hc, rfl⟩ := y
  exact ⟨Same.refl _, .str ⟨#[c]⟩, by unfold signs; rw [List.getElem?_map, Array.getElem?_toList, hc]; rfl, .str _⟩
def iSeq (m : ME) : Env → RL := fun e => match m e with
  | .ok t => (match t.toD with
    | .lst ds => .ok ds
    | .tup ds => .ok ds
    | .str x => .ok (signs x)
    | _ => .bad)
  | .exc x => .exc x
  | .bad => .bad
variable {E : L2.St → XK} {a b : Expr} {ma mb : ME} {tg : Expr} {es : List Expr}
theorem ji_seq (h : JE K cl E X a ma) : JI K cl E X tg a (iSeq ma) := by
  obtain ⟨hKh, t, p, s⟩ := h
  refine ⟨hKh, fun σ H R => iList K t σ H R ∨ (iTup K t σ H R ∨ iStr t σ H R), fun ξ => by rw [← hKh ξ]; exact pi_or (pi_list (p ξ)) (pi_or (pi_tup (p ξ)) (pi_str (p ξ))), fun σ H e A1 st Q k => ?_⟩
  unfold iSeq at k
  cases q : ma e with
  | bad => rw [q] at k; exact k.elim
  | exc x =>
    rw [q] at k
    refine .inl (s.d st ?_)
    rw [q]
    exact k
  | ok t' =>
    rw [q] at k
    simp only at k
    cases q2 : t'.toD with
    | lst ds =>
      rw [q2] at k
      refine .inl (s.d st ?_)
      rw [q]
      intro v H2 u r
      rw [q2] at r
      cases r with
      | lst h1 h2 => exact ⟨_, rfl, ⟨_, sqL_hid h1⟩, k _ H2 _ u (fun H H' ss g => ⟨ss.seq g.1, g.2.mono ss⟩) ⟨h1, h2⟩ wk_list⟩
    | tup ds =>
      rw [q2] at k
      refine .inr (.inl (s.d st ?_))
      rw [q]
      intro v H2 u r
      rw [q2] at r
      cases r with
      | tup h1 h2 => exact ⟨_, rfl, ⟨_, sqT_hid h1⟩, k _ H2 _ u (fun H H' ss g => ⟨sqT_same ss g.1, g.2.mono ss⟩) ⟨h1, h2⟩ wk_tup⟩
    | str x =>
      rw [q2] at k
      refine .inr (.inr (s.d st ?_))
      rw [q]
      intro v H2 u r
      rw [q2] at r
      cases r with
      | str _ => exact ⟨_, rfl, k _ H2 _ u (fun _ _ _ g => g) trivial wk_str⟩
    | _ => rw [q2] at k; exact k.elim
/-- lo, lo + 1, .. -/
def rngD (lo : Int) (n : Nat) : List D := (List.range n).map fun (i : Nat) => D.int (lo + i)
theorem wk_range {lo : Int} {n : Nat} : Wk K cl (Itr lo n) (rngD lo n) (fun _ => True) := by
  refine ⟨fun _ => True, YFn fun i => .int (lo + i), ?_, fun _ _ _ _ => trivial, fun i x H H' A hi o h y => ?_⟩
  · have e : (rngD lo n).length = n := by simp [rngD]
    rw [e]
    exact walk_range
  · obtain ⟨rfl, rfl⟩ := y
    have hi' : i < n := by simpa [rngD] using hi
    exact ⟨Same.refl _, .int (lo + i), by simp [rngD, hi'], .int _⟩
/-- range(n), range(a, b), range(a, b, c) -/
def iRng1 (ms : Env → RL) : Env → RL := fun e => match ms e with
  | .ok [.int j] => if -(2 ^ 62) ≤ j ∧ j < 2 ^ 62 then .ok (rngD 0 j.toNat) else .bad
  | .exc x => .exc x
  | _ => .bad
def iRng2 (ms : Env → RL) : Env → RL := fun e => match ms e with
  | .ok [.int i, .int j] => if -(2 ^ 62) ≤ i ∧ i < 2 ^ 62 ∧ -(2 ^ 62) ≤ j ∧ j < 2 ^ 62 then .ok (rngD i (j - i).toNat) else .bad
  | .exc x => .exc x
  | _ => .bad
theorem ji_range1 {ms : Env → RL} {p : Pos} (hg : ∀ ξ, Gl (X ξ) "range") (hm : ∀ ξ, (X ξ).mg "range" = none) (h : JA K cl E X [a] ms) (hs : ∀ ξ, starEach [a] (X ξ).env = [(false, eval a (X ξ).env)] := by intro _; rfl) : JI K cl E X tg (.Call (.Name "range" p) [a] [] pos) (iRng1 ms) := by
  obtain ⟨hKh, t, q, s⟩ := h
  refine ⟨hKh, _, fun ξ => pi_range1 (hg ξ) (hm ξ) (q ξ) (hs ξ), fun σ H e A1 st Q k => ?_⟩
  refine s σ H e A1 st _ ?_
  unfold iRng1 at k
  cases q : ms e with
  | bad => rw [q] at k; exact k
  | exc x => rw [q] at k; exact k
  | ok ds =>
    rw [q] at k
    intro vs H2 u r
    split at k
    · rename_i j e1
      cases e1
      by_cases hj : -(2 ^ 62) ≤ j ∧ j < 2 ^ 62
      · rw [if_pos hj] at k
        obtain ⟨v, rfl, rv⟩ := r.one
        cases rv
        exact ⟨j, rfl, hj.1, hj.2, k _ H2 _ u (fun _ _ _ g => g) trivial wk_range⟩
      · rw [if_neg hj] at k; exact k.elim
    · rename_i e1; cases e1
    · exact k.elim
theorem ji_range2 {ms : Env → RL} {p : Pos} (hg : ∀ ξ, Gl (X ξ) "range") (hm : ∀ ξ, (X ξ).mg "range" = none) (h : JA K cl E X [a, b] ms) (hs : ∀ ξ, starEach [a, b] (X ξ).env = [(false, eval a (X ξ).env), (false, eval b (X ξ).env)] := by intro _; rfl) (hs2 : ∀ ξ, starEach [b] (X ξ).env = [(false, eval b (X ξ).env)] := by intro _; rfl) :
    JI K cl E X tg (.Call (.Name "range" p) [a, b] [] pos) (iRng2 ms) := by
  obtain ⟨hKh, t, q, s⟩ := h
  refine ⟨hKh, _, fun ξ => pi_range2 (hg ξ) (hm ξ) (q ξ) (hs ξ) (hs2 ξ), fun σ H e A1 st Q k => ?_⟩
  refine s σ H e A1 st _ ?_
  unfold iRng2 at k
  cases q : ms e with
  | bad => rw [q] at k; exact k
  | exc x => rw [q] at k; exact k
  | ok ds =>
    rw [q] at k
    intro vs H2 u r
    split at k
    · rename_i i j e1
      cases e1
      by_cases hj : -(2 ^ 62) ≤ i ∧ i < 2 ^ 62 ∧ -(2 ^ 62) ≤ j ∧ j < 2 ^ 62
      · rw [if_pos hj] at k
        obtain ⟨v1, v2, rfl, r1, r2⟩ := r.two
        cases r1
        cases r2
        exact ⟨i, j, rfl, hj, k _ H2 _ u (fun _ _ _ g => g) trivial wk_range⟩
      · rw [if_neg hj] at k; exact k.elim
    · rename_i e1; cases e1
    · exact k.elim
/-- lo, lo + c, .. -/
def rngC (lo c : Int) (n : Nat) : List D := (List.range n).map fun (i : Nat) => D.int (lo + i * c)
theorem wk_rangeC {lo c : Int} {n : Nat} : Wk K cl (Itc lo c n) (rngC lo c n) (fun _ => True) := by
  refine ⟨fun _ => True, YFn fun i => .int (lo + (i : Nat) * c), ?_, fun _ _ _ _ => trivial, fun i x H H' A hi o h y => ?_⟩
  · have e : (rngC lo c n).length = n := by simp [rngC]
    rw [e]
    exact walk_rangeC
  · obtain ⟨rfl, rfl⟩ := y
    have hi' : i < n := by simpa [rngC] using hi
    exact ⟨Same.refl _, .int (lo + i * c), by simp [rngC, hi'], .int _⟩
def iRng3 (ms : Env → RL) : Env → RL := fun e => match ms e with
  | .ok [.int i, .int j, .int c] => if c ≠ 0 ∧ c.natAbs < 1073741824 ∧ Builtin.Range.small i j c = true ∧ Builtin.Range.rangeSize i j c = ((Builtin.Range.rangeSize i j c).toNat : Int) then .ok (rngC i c (Builtin.Range.rangeSize i j c).toNat) else .bad
  | .exc x => .exc x
  | _ => .bad
theorem ji_range3 {d : Expr} {ms : Env → RL} {p : Pos} (hg : ∀ ξ, Gl (X ξ) "range") (hm : ∀ ξ, (X ξ).mg "range" = none) (h : JA K cl E X [a, b, d] ms) (hs : ∀ ξ, starEach [a, b, d] (X ξ).env = (false, eval a (X ξ).env) :: starEach [b, d] (X ξ).env := by intro _; rfl) (hpl : ∀ ξ, (backTo pos (starEach [b, d] (X ξ).env)).any (·.1) = false := by intro _; rfl) :
    JI K cl E X tg (.Call (.Name "range" p) [a, b, d] [] pos) (iRng3 ms) := by
  obtain ⟨hKh, t, q, s⟩ := h
  refine ⟨hKh, _, fun ξ => pi_range3 (hg ξ) (hm ξ) (q ξ) (hs ξ) (hpl ξ), fun σ H e A1 st Q k => ?_⟩
  refine s σ H e A1 st _ ?_
  unfold iRng3 at k
  cases q : ms e with
  | bad => rw [q] at k; exact k
  | exc x => rw [q] at k; exact k
  | ok ds =>
    rw [q] at k
    intro vs H2 u r
    split at k
    · rename_i i j c e1
      cases e1
      split at k
      · rename_i hj
        cases r with
        | cons r1 r =>
          obtain ⟨v1, v2, rfl, r2, r3⟩ := r.two
          cases r1
          cases r2
          cases r3
          exact ⟨i, j, c, _, rfl, hj, k _ H2 _ u (fun _ _ _ g => g) trivial wk_rangeC⟩
      · exact k.elim
    · rename_i e1; cases e1
    · exact k.elim
/-- a new pair at each turn -/
theorem wk_pairs {J : It} {G : Hp → Prop} {f g : Nat → Option V} {ds : List D} {Γ : Hp → Prop} (w : Walk J ds.length G (YPair f g)) (hG : ∀ H A, (∀ a ∈ A, Ow (H a)) → Γ (hd H A) → G H)
    (hp : ∀ i x y H, i < ds.length → Γ H → f i = some x → g i = some y → ∃ d1 d2, ds[i]? = some (.tup [d1, d2]) ∧ Rp K cl H x d1 ∧ Rp K cl H y d2) : Wk K cl J ds Γ := by
  refine ⟨G, _, w, hG, fun i x H H' A hi o h y => ?_⟩
  obtain ⟨T, x1, y1, rfl, hT, rfl, h1, h2⟩ := y
  obtain ⟨d1, d2, q1, q2, q3⟩ := hp i x1 y1 _ hi h h1 h2
  refine ⟨same_upd hT, _, q1, .tup (.inl (.inl ?_)) (.cons (q2.mono (same_at hT)) (.cons (q3.mono (same_at hT)) .nil))⟩
  rw [hd_of fun z => (o T z).ne hT, upd_same]
def enumD (ds : List D) : List D := (List.range ds.length).zipWith (fun i d => D.tup [.int (i : Nat), d]) ds
theorem enumD_len (ds : List D) : (enumD ds).length = ds.length := by simp [enumD]
theorem enumD_at (ds : List D) (i : Nat) : (enumD ds)[i]? = (ds[i]?).map fun d => D.tup [.int (i : Nat), d] := by
  unfold enumD
  rw [List.getElem?_zipWith]
  by_cases h : i < ds.length
  · simp [h]
  · simp [h]
def iEnumD (ms : Env → RL) : Env → RL := fun e => match ms e with
  | .ok [.lst ds] => .ok (enumD ds)
  | .exc x => .exc x
  | _ => .bad
theorem ji_enum {ms : Env → RL} {p tpos : Pos} {elts : List Expr} {kk : Nat} (hg : ∀ ξ, Gl (X ξ) "enumerate") (hm : ∀ ξ, (X ξ).mg "enumerate" = none) (h : JA K cl E X [a] ms) (hs : ∀ ξ, starEach [a] (X ξ).env = [(false, eval a (X ξ).env)] := by intro _; rfl) : JI K cl E X (.Tuple elts kk tpos) (.Call (.Name "enumerate" p) [a] [] pos) (iEnumD ms) := by
  obtain ⟨hKh, t, q, s⟩ := h
  refine ⟨hKh, iEnum K t, fun ξ => by rw [← hKh ξ]; exact pi_enum (hg ξ) (hm ξ) (q ξ) (hs ξ), fun σ H e A1 st Q k => ?_⟩
  refine s σ H e A1 st _ ?_
  unfold iEnumD at k
  cases q : ms e with
  | bad => rw [q] at k; exact k
  | exc x => rw [q] at k; exact k
  | ok ds =>
    rw [q] at k
    intro vs H2 u r
    split at k
    · rename_i xs e1
      cases e1
      obtain ⟨v, rfl, rv⟩ := r.one
      cases rv with
      | lst h1 h2 =>
        rename_i a' vs'
        have hl := h2.length
        refine ⟨_, _, rfl, sqL_hid h1, k _ H2 (fun H => SqL _ H a' vs' ∧ RpA _ cl H vs' xs) u (fun H H' ss g => ⟨ss.seq g.1, g.2.mono ss⟩) ⟨h1, h2⟩ (wk_pairs (by rw [enumD_len, ← hl]; exact walk_enum) (fun H A o g => sqL_hid g.1) fun i x y H hi g e1 e2 => ?_)⟩
        cases e1
        rw [enumD_len] at hi
        obtain ⟨v, q1, q2⟩ := g.2.get (i := i) (List.getElem?_eq_getElem hi)
        have e3 : y = v := Option.some.inj (e2.symm.trans q1)
        subst e3
        exact ⟨.int (i : Nat), _, by rw [enumD_at, List.getElem?_eq_getElem hi]; rfl, .int _, q2⟩
    · rename_i e1; cases e1
    · exact k.elim
def zipD (ds es : List D) : List D := ds.zipWith (fun d e => D.tup [d, e]) es
def iZipD (ms : Env → RL) : Env → RL := fun e => match ms e with
  | .ok [.lst ds, .lst es] => .ok (zipD ds es)
  | .exc x => .exc x
  | _ => .bad
theorem ji_zip {ms : Env → RL} {p tpos : Pos} {elts : List Expr} {kk : Nat} (hg : ∀ ξ, Gl (X ξ) "zip") (hm : ∀ ξ, (X ξ).mg "zip" = none) (h : JA K cl E X [a, b] ms) (hs : ∀ ξ, starEach [a, b] (X ξ).env = (false, eval a (X ξ).env) :: starEach [b] (X ξ).env := by intro _; rfl) (hpl : ∀ ξ, (backTo pos (starEach [b] (X ξ).env)).any (·.1) = false := by intro _; rfl) :
    JI K cl E X (.Tuple elts kk tpos) (.Call (.Name "zip" p) [a, b] [] pos) (iZipD ms) := by
  obtain ⟨hKh, t, q, s⟩ := h
  refine ⟨hKh, iZip K t, fun ξ => by rw [← hKh ξ]; exact pi_zip (hg ξ) (hm ξ) (q ξ) (hs ξ) (hpl ξ), fun σ H e A1 st Q k => ?_⟩
  refine s σ H e A1 st _ ?_
  unfold iZipD at k
  cases q : ms e with
  | bad => rw [q] at k; exact k
  | exc x => rw [q] at k; exact k
  | ok ds =>
    rw [q] at k
    intro vs H2 u r
    split at k
    · rename_i xs ys e1
      cases e1
      obtain ⟨v1, v2, rfl, r1, r2⟩ := r.two
      cases r1 with
      | lst h1 h2 =>
        rename_i a1 vs1
        cases r2 with
        | lst h3 h4 =>
          rename_i a2 vs2
          refine ⟨_, _, _, _, rfl, sqL_hid h1, sqL_hid h3, k _ H2 (fun H => (SqL _ H a1 vs1 ∧ RpA _ cl H vs1 xs) ∧ (SqL _ H a2 vs2 ∧ RpA _ cl H vs2 ys)) u (fun H H' ss g => ⟨⟨ss.seq g.1.1, g.1.2.mono ss⟩, ⟨ss.seq g.2.1, g.2.2.mono ss⟩⟩) ⟨⟨h1, h2⟩, ⟨h3, h4⟩⟩
            (wk_pairs (walk_zip (by rw [h2.length, h4.length, zipD, List.length_zipWith])) (fun H A o g => ⟨sqL_hid g.1.1, sqL_hid g.2.1⟩) fun i x y H hi g e1 e2 => ?_)⟩
          rw [zipD, List.length_zipWith] at hi
          have hi1 : i < xs.length := by omega
          have hi2 : i < ys.length := by omega
          obtain ⟨v, q1, q2⟩ := g.1.2.get (i := i) (List.getElem?_eq_getElem hi1)
          obtain ⟨w, q3, q4⟩ := g.2.2.get (i := i) (List.getElem?_eq_getElem hi2)
          have e3 : x = v := Option.some.inj (e1.symm.trans q1)
          have e4 : y = w := Option.some.inj (e2.symm.trans q3)
          subst e3 e4
          exact ⟨_, _, by rw [zipD, List.getElem?_zipWith, List.getElem?_eq_getElem hi1, List.getElem?_eq_getElem hi2], q2, q4⟩
    · rename_i e1; cases e1
    · exact k.elim

/-! ### for -/
def mForL (tg : D → Env → Option Env) (body : MS) : List D → MS
  | [], e => .nx e
  | d :: ds, e => match tg d e with
    | some e1 => (match body e1 with
      | .nx e2 => mForL tg body ds e2
      | .ct e2 => mForL tg body ds e2
      | .bk e2 => .nx e2
      | r => r)
    | none => .bad
def mFor (mi : Env → RL) (tg : D → Env → Option Env) (body : MS) : MS := fun e => match mi e with
  | .ok ds => mForL tg body ds e
  | .exc x => .exc x e
  | .bad => .bad
/-- more is known to stand -/
def Cn.and (c : Cn) (Γ : Hp → Prop) (up : ∀ H H', Same H H' → Γ H → Γ H') : Cn := { c with Γ := fun H => c.Γ H ∧ Γ H, up := fun H H' s g => ⟨c.up H H' s g.1, up H H' s g.2⟩ }
theorem SR.fst {c : Cn} {Γ : Hp → Prop} {up : ∀ H H', Same H H' → Γ H → Γ H'} {σ : L2.St} {H : Hp} {e : Env} (h : SR K cl (c.and Γ up) σ H e) : SR K cl c σ H e := by
  obtain ⟨A, nd, f, s, g, r⟩ := h
  exact ⟨A, nd, f, s, g.1, r⟩
theorem ss_for {K : PySem.W.Frag} {wi : TI} {g : TG} {tb : TS} {mi : Env → RL} {mt : D → Env → Option Env} {ns : List Nat} {body : MS} (hi : SI K cl E wi mi) (hg : SG K cl g mt ns) (hb : SS K cl E tb body) : SS K cl E (tFor wi g tb) (mFor mi mt body) := fun c σ H e hs D k => by
  obtain ⟨A, h⟩ := hs
  refine hi σ H e _ h.ste _ ?_
  unfold mFor at k
  cases q : mi e with
  | bad => rw [q] at k; exact k
  | exc x => rw [q] at k; exact fun cv d H2 s2 r => k σ H2 cv d ⟨A, h.up s2⟩ r
  | ok ds =>
    rw [q] at k
    intro J H1 Γ s1 up g1 wk
    obtain ⟨G, Y, w, hG, hY⟩ := wk.ex
    have h1 := h.up s1
    refine for_it w (fun i σ' H' => ∃ e', SR K cl (c.and Γ up) σ' H' e' ∧ SPost K cl c E D (mForL mt body (ds.drop i) e')) ⟨e, ⟨A, h1.1, h1.2.1, h1.2.2.1, ⟨h1.2.2.2.1, g1⟩, h1.2.2.2.2⟩, k⟩ ?_ ?_ ?_
    · rintro i σ' H' _ ⟨e', ⟨A', sr⟩, _⟩
      exact hG H' _ sr.ste.1 sr.2.2.2.1.2
    · rintro i x σ' H2 H3 hi' ⟨e', ⟨A', sr⟩, post⟩ y
      obtain ⟨s3, d, hd', rd⟩ := hY i x H2 H3 _ hi' sr.ste.1 sr.2.2.2.1.2 y
      have sr3 := sr.up s3
      rw [List.drop_eq_getElem_cons hi'] at post
      have ed : ds[i] = d := Option.some.inj ((List.getElem?_eq_getElem hi').symm.trans hd')
      rw [ed] at post
      unfold mForL at post
      cases qt : mt d e' with
      | none => rw [qt] at post; exact post.elim
      | some e1 =>
        rw [qt] at post
        simp only at post
        refine hg (hd H3 (c.B ++ A')) H3 σ' e' A' sr3.2.2.2.2 sr3.1 hd_le x d e1 rd qt _ fun σ1 A1 p1 p2 p3 _ => ?_
        have ss : Same (hd H3 (c.B ++ A')) (hd H3 (c.B ++ A1)) := hd_same (Same.refl _) fun a ha => .inl ((List.mem_append.mp ha).elim (List.mem_append_left _) fun z => List.mem_append_right _ (p3 a z))
        have sr4 : SR K cl (c.and Γ up) σ1 H3 e1 := ⟨A1, p2, fun a ha => sr3.2.1 a (p3 a ha), sr3.2.2.1, (c.and Γ up).up _ _ ss sr3.2.2.2.1, p1.mono ss fun _ _ => rfl⟩
        refine hb (c.and Γ up) σ1 H3 e1 sr4 _ ?_
        cases qb : body e1 with
        | bad => rw [qb] at post; exact post
        | nx e2 => rw [qb] at post; exact fun σ2 H4 z => ⟨e2, z, post⟩
        | ct e2 => rw [qb] at post; exact fun σ2 H4 z => ⟨e2, z, post⟩
        | bk e2 => rw [qb] at post; exact fun σ2 H4 z => post σ2 H4 z.fst
        | rt t => rw [qb] at post; exact fun v H4 z => post v H4 z
        | exc x e2 => rw [qb] at post; exact fun σ2 H4 cv d z r => post σ2 H4 cv d z.fst r
    · rintro σ' H' ⟨e', sr, post⟩
      rw [List.drop_length] at post
      exact post σ' H' sr.fst
theorem js_for {iter : Expr} {mi : Env → RL} {mt : D → Env → Option Env} {ns : List Nat} {body : List Stmt} {m : MS} (hc : ∀ ξ, (X ξ).calm = true) (hi : JI K cl E X tg iter mi) (hg : JG K cl X tg mt ns) (hb : JSs K cl E X body m) (hp : ∀ ξ, PassesOwn (model (X ξ).prog (X ξ).w) (X ξ).A (X ξ).env (X ξ).xe) (hs : ∀ ξ, ∀ x, foldedSetIterable iter (X ξ).env x = pure x := by intro _; intro _; rfl) : JS K cl E X (.For tg iter body [] pos) (mFor mi mt m) := by
  obtain ⟨hKhi, t, p, s⟩ := hi
  obtain ⟨hKhb, t2, p2, s2⟩ := hb
  obtain ⟨_, g, pg, sg⟩ := hg
  exact ⟨hKhi, _, fun ξ => ps_for (hp ξ) (hc ξ) (p ξ) (pg ξ) (p2 ξ) (hs ξ), ss_for s sg s2⟩

/-! ### while -/
def mWhile (mc : MB) (body : MS) : Nat → MS
  | 0, _ => .bad
  | n + 1, e => match mc e with
    | .ok true => (match body e with
      | .nx e2 => mWhile mc body n e2
      | .ct e2 => mWhile mc body n e2
      | .bk e2 => .nx e2
      | r => r)
    | .ok false => .nx e
    | .exc x => .exc x e
    | .bad => .bad
theorem ss_while {K : PySem.W.Frag} {tc : TT} {tb : TS} {mc : MB} {body : MS} (hc : SB K cl E tc mc) (hb : SS K cl E tb body) (n : Nat) : SS K cl E (tWhile tc tb) (mWhile mc body n) := fun c σ H e hs D k => by
  refine ⟨fun m σ' H' => ∃ e', SR K cl c σ' H' e' ∧ SPost K cl c E D (mWhile mc body m e'), ⟨n, e, hs, k⟩, ?_⟩
  rintro m σ' H' ⟨e', ⟨A, h⟩, post⟩
  cases m with
  | zero => exact post.elim
  | succ m =>
    refine hc σ' H' e' _ h.ste _ ?_
    unfold mWhile at post
    cases q : mc e' with
    | bad => rw [q] at post; exact post
    | exc x => rw [q] at post; exact fun cv d H2 s2 r => post σ' H2 cv d ⟨A, h.up s2⟩ r
    | ok b =>
      rw [q] at post
      intro H2 u
      cases b with
      | false => exact iteF (post σ' H2 ⟨A, h.up u⟩)
      | true =>
        refine iteT ⟨fun σ2 H3 => ∃ m', m' < m + 1 ∧ ∃ e2, SR K cl c σ2 H3 e2 ∧ SPost K cl c E D (mWhile mc body m' e2), fun σ2 H3 z => z, ?_⟩
        refine hb c σ' H2 e' ⟨A, h.up u⟩ _ ?_
        simp only at post
        cases qb : body e' with
        | bad => rw [qb] at post; exact post
        | nx e2 => rw [qb] at post; exact fun σ2 H4 z => ⟨m, Nat.lt_succ_self m, e2, z, post⟩
        | ct e2 => rw [qb] at post; exact fun σ2 H4 z => ⟨m, Nat.lt_succ_self m, e2, z, post⟩
        | bk e2 => rw [qb] at post; exact post
        | rt t => rw [qb] at post; exact post
        | exc x e2 => rw [qb] at post; exact post
theorem js_while {mc : MB} {m : MS} {body : List Stmt} (n : Nat) (hc : JB K cl E X a mc) (hb : JSs K cl E X body m) (hp : ∀ ξ, PassesOwn (model (X ξ).prog (X ξ).w) (X ξ).A (X ξ).env (X ξ).xe) : JS K cl E X (.While a body [] pos) (mWhile mc m n) := by
  obtain ⟨hKhc, t, p, s⟩ := hc
  obtain ⟨hKhb, t2, p2, s2⟩ := hb
  exact ⟨hKhc, _, fun ξ => ps_while (hp ξ) (p ξ) (p2 ξ), ss_while s s2 n⟩
/-- targets at once: a, b = e -/
def mAsgT (mt : D → Env → Option Env) (m : ME) : MS := fun e => match m e with
  | .ok t => (match mt t.toD e with
    | some e1 => .nx e1
    | none => .bad)
  | .exc x => .exc x e
  | .bad => .bad
theorem js_asgT {mt : D → Env → Option Env} {ns : List Nat} (h : JE K cl E X a ma) (hg : JG K cl X tg mt ns) (hs : ∀ ξ, swapsWithSole [tg] a pos.line (X ξ).env = pure false := by intro _; rfl) (hw : ∀ ξ, swappedStores [tg] a (X ξ).env = pure none := by intro _; rfl) (h1 : ∀ ξ, (assignEach [tg] (X ξ).env).map (·.2) = [assign tg (X ξ).env] := by intro _; rfl) : JS K cl E X (.Assign [tg] a pos) (mAsgT mt ma) := by
  obtain ⟨hKh, t, p, s⟩ := h
  obtain ⟨_, g, pg, sg⟩ := hg
  refine ⟨hKh, _, fun ξ => ps_asg (p ξ) (pg ξ) (hs ξ) (hw ξ) (h1 ξ), fun c σ H e hs D k => ?_⟩
  obtain ⟨A, h⟩ := hs
  refine s.d h.ste ?_
  unfold mAsgT at k
  cases q : ma e with
  | bad => rw [q] at k; exact k
  | exc x => rw [q] at k; exact fun cv d H2 s2 r => k σ H2 cv d ⟨A, h.up s2⟩ r
  | ok t' =>
    rw [q] at k
    intro v H2 s2 r
    have sr3 := h.up s2
    cases qt : mt t'.toD e with
    | none => simp only [qt] at k; exact k.elim
    | some e1 =>
      simp only [qt] at k
      refine sg (hd H2 (c.B ++ A)) H2 σ e A sr3.2.2.2.2 sr3.1 hd_le v _ e1 r qt _ fun σ1 A1 p1 p2 p3 _ => k σ1 H2 ?_
      have ss : Same (hd H2 (c.B ++ A)) (hd H2 (c.B ++ A1)) := hd_same (Same.refl _) fun a ha => .inl ((List.mem_append.mp ha).elim (List.mem_append_left _) fun z => List.mem_append_right _ (p3 a z))
      exact ⟨A1, p2, fun a ha => sr3.2.1 a (p3 a ha), sr3.2.2.1, c.up _ _ ss sr3.2.2.2.1, p1.mono ss fun _ _ => rfl⟩
end
end Nd

namespace Nd
open PySem PySem.Spec PyProof.Rows L2

section
variable {K : PySem.W.Frag} {cl : Cl} {E : L2.St → XK} {ι : Type} {X : ι → Cx} {a b : Expr} {ma mb : ME} {pos pos' apos : Pos} {tg : Expr} {es : List Expr}

/-! ### comprehensions -/
def wipeE (e : Env) : List Nat → Env
  | [] => e
  | v :: vs => (wipeE e vs).set v none
theorem RSl.wipe {G H : Hp} {σ : L2.St} {e : Env} {A : List Addr} (h : RSl K cl G H σ e A) (nd : A.Nodup) : ∀ vs : List Nat, ∃ A', RSl K cl G H (L2.wipe σ vs) (wipeE e vs) A' ∧ A'.Nodup ∧ (∀ b ∈ A', b ∈ A)
  | [] => ⟨A, h, nd, fun _ z => z⟩
  | v :: vs => by
    obtain ⟨A1, q1, q2, q3⟩ := h.wipe nd vs
    obtain ⟨A2, p1, p2, p3⟩ := q1.forget q2 v none
    exact ⟨A2, p1, p2, fun b hb => q3 b (p3 b hb)⟩
/-- the items that are made, from the left -/
def mLcL (tg : D → Env → Option Env) (mt : MB) (me : ME) (e : Env) : List D → Option (List T)
  | [] => some []
  | d :: ds => match tg d e with
    | some e1 => (match mt e1 with
      | .ok true => (match me e1 with
        | .ok t => (mLcL tg mt me e ds).map (t :: ·)
        | _ => none)
      | .ok false => mLcL tg mt me e ds
      | _ => none)
    | none => none
def mLc (vs : List Nat) (mi : Env → RL) (tg : D → Env → Option Env) (mt : MB) (me : ME) : ME := fun e => match mi e with
  | .ok ds => if ds.length < sizeLine then (match mLcL tg mt me (wipeE e vs) ds with
    | some ts => .ok (.l ts)
    | none => .bad) else .bad
  | .exc x => .exc x
  | .bad => .bad
abbrev noE : L2.St → XK := fun _ _ _ _ => False
theorem noExc {x : Xn} {H : Hp} (h : ExP cl (fun _ _ _ => False) H x) (hx : x.2 = []) : False := h _ _ H (Same.refl _) ⟨rfl, hx, rfl⟩
theorem ow_more {H : Hp} {A1 F : List Addr} (o1 : ∀ a ∈ A1, Ow (H a)) (o2 : ∀ a ∈ F, Ow (H a)) : ∀ a ∈ A1 ++ F, Ow (H a) := fun a ha => (List.mem_append.mp ha).elim (o1 a) (o2 a)
theorem se_lc {wi : TI} {g : TG} {tt : TT} {te : TE} {mi : Env → RL} {mt : D → Env → Option Env} {ns vs : List Nat} {mtt : MB} {me : ME} (hi : SI K cl E wi mi) (hg : SG K cl g mt ns) (ht : SB K cl noE tt mtt) (he : SE K cl noE te me) (hn : ∀ n ∈ ns, n ∈ vs) :
    SE K cl E (tLc wi g tt te vs) (mLc vs mi mt mtt me) := by
  intro σ H e A1 st Q k
  refine hi σ H e A1 st _ ?_
  unfold mLc at k
  cases q : mi e with
  | bad => rw [q] at k; exact k
  | exc x => rw [q] at k; exact k
  | ok ds =>
    rw [q] at k
    simp only at k
    by_cases hz : ds.length < sizeLine
    · rw [if_pos hz] at k
      cases q2 : mLcL mt mtt me (wipeE e vs) ds with
      | none => rw [q2] at k; exact k.elim
      | some ts0 =>
        rw [q2] at k
        intro J H1 Γ s1 up g1 wk D hD
        have st1 := st.up s1
        obtain ⟨o1, A, nd, sub, rs⟩ := st1
        obtain ⟨Aw, w1, w2, w3⟩ := rs.wipe nd vs
        obtain ⟨G, Y, w, hG, hY⟩ := wk.ex
        have nDA : D ∉ A1 := fun z => (o1 D z).ne hD
        -- the state at turn i
        let Pv : Nat → Hp → Prop := fun i H' => ∃ ts xs F, i ≤ ds.length ∧ ts.length ≤ i ∧ Same H1 H' ∧ (∀ a ∈ D :: F, H1 a = none) ∧ (D :: F).Nodup ∧ H' D = some (.lst xs) ∧ RTs K cl (hd H' (A1 ++ D :: F)) H' xs ts F ∧
          Γ (hd H' (A1 ++ D :: F)) ∧ RSl K cl (hd H' (A1 ++ D :: F)) H' (L2.wipe σ vs) (wipeE e vs) Aw ∧ ∃ us, mLcL mt mtt me (wipeE e vs) (ds.drop i) = some us ∧ ts0 = ts ++ us
        have owP : ∀ {H' : Hp} {F : List Addr} {xs : List V} {ts : List T}, Same H1 H' → H' D = some (.lst xs) → RTs K cl (hd H' (A1 ++ D :: F)) H' xs ts F → ∀ a ∈ A1 ++ D :: F, Ow (H' a) := fun s hD' r => ow_more (fun a ha => (o1 a ha).same s) fun a ha => by
          rcases List.mem_cons.mp ha with rfl | ha
          · rw [hD']; trivial
          · exact r.ow a ha
        refine lc_it w Pv ?_ ?_ ?_ ?_
        · have ss : Same H1 (upd H1 D (.lst [])) := same_upd hD
          have s2 : Same (hd H1 A1) (hd (upd H1 D (.lst [])) (A1 ++ [D])) := hd_same ss fun a ha => (List.mem_append.mp ha).elim .inl fun z => .inr (by rw [List.mem_singleton.mp z]; exact hD)
          refine ⟨[], [], [], Nat.zero_le _, Nat.le_refl _, ss, fun a ha => by rw [List.mem_singleton.mp ha]; exact hD, by simp, upd_same, .nil, up _ _ s2 g1, w1.mono s2 fun b hb => upd_ne fun z => nDA (sub _ (w3 _ (by rw [← z]; exact hb))), ts0, q2, rfl⟩
        · rintro i H' _ ⟨ts, xs, F, _, _, h3, h4, h5, h6, h7, h8, _⟩
          exact hG H' _ (owP h3 h6 h7) h8
        · rintro i x H2 H3 hi' ⟨ts, xs, F, h1, h2, h3, h4, h5, h6, h7, h8, h9, us, h10, h11⟩ y
          obtain ⟨s3, d, hd', rd⟩ := hY i x H2 H3 _ hi' (owP h3 h6 h7) h8 y
          have h3' := h3.trans s3
          have h6' : H3 D = some (.lst xs) := s3 _ _ h6
          have ss : Same (hd H2 (A1 ++ D :: F)) (hd H3 (A1 ++ D :: F)) := hd_same s3 fun a ha => .inl ha
          have keep : ∀ b, H2 b ≠ none → H3 b = H2 b := fun b hb => by
            cases z : H2 b with
            | none => exact absurd z hb
            | some u => exact s3 b u z
          have h7' := h7.mono (H' := H3) ss fun b hb => keep b (h7.dom b hb)
          have h8' := up _ _ ss h8
          have h9' := h9.mono (H' := H3) ss fun b hb => keep b (h9.dom b hb)
          rw [List.drop_eq_getElem_cons hi'] at h10
          have ed : ds[i] = d := Option.some.inj ((List.getElem?_eq_getElem hi').symm.trans hd')
          rw [ed] at h10
          unfold mLcL at h10
          cases qt : mt d (wipeE e vs) with
          | none => rw [qt] at h10; cases h10
          | some e1 =>
            rw [qt] at h10
            simp only at h10
            refine hg _ H3 (L2.wipe σ vs) (wipeE e vs) Aw h9' w2 hd_le x d e1 rd qt _ fun σ1 A2 p1 p2 p3 p4 => ⟨wipe_agree hn p4, ?_⟩
            have st2 : StE K cl σ1 H3 e1 (A1 ++ D :: F) := ⟨owP h3' h6' h7', A2, p2, fun a ha => List.mem_append_left _ (sub a (w3 a (p3 a ha))), p1⟩
            refine ht σ1 H3 e1 _ st2 _ ?_
            cases qb : mtt e1 with
            | bad => rw [qb] at h10; cases h10
            | exc x => rw [qb] at h10; cases h10
            | ok bb =>
              rw [qb] at h10
              intro H4 s4
              have h3'' := h3'.trans s4
              have h6'' : H4 D = some (.lst xs) := s4 _ _ h6'
              have ss4 : Same (hd H3 (A1 ++ D :: F)) (hd H4 (A1 ++ D :: F)) := hd_same s4 fun a ha => .inl ha
              have keep4 : ∀ b, H3 b ≠ none → H4 b = H3 b := fun b hb => by
                cases z : H3 b with
                | none => exact absurd z hb
                | some u => exact s4 b u z
              have h7'' := h7'.mono (H' := H4) ss4 fun b hb => keep4 b (h7'.dom b hb)
              have h8'' := up _ _ ss4 h8'
              have h9'' := h9'.mono (H' := H4) ss4 fun b hb => keep4 b (h9'.dom b hb)
              cases bb with
              | false =>
                exact iteF ⟨ts, xs, F, hi', Nat.le_succ_of_le h2, h3'', h4, h5, h6'', h7'', h8'', h9'', us, h10, h11⟩
              | true =>
                simp only at h10
                refine iteT ?_
                refine he σ1 H4 e1 _ (st2.up s4) _ ?_
                cases qe : me e1 with
                | bad => rw [qe] at h10; cases h10
                | exc x => rw [qe] at h10; cases h10
                | ok t =>
                  rw [qe] at h10
                  obtain ⟨us', e5, e6⟩ := Option.map_eq_some_iff.mp h10
                  intro v H5 F5 s5 f5 n5 r5
                  have h6v : H5 D = some (.lst xs) := s5 _ _ h6''
                  have keep5 : ∀ b, H4 b ≠ none → H5 b = H4 b := fun b hb => by
                    cases z : H4 b with
                    | none => exact absurd z hb
                    | some u => exact s5 b u z
                  have hl : xs.length = ts.length := h7''.length
                  refine ⟨xs, h6v, by omega, ?_⟩
                  have e7 : A1 ++ D :: F ++ F5 = A1 ++ D :: (F ++ F5) := by rw [List.append_assoc]; rfl
                  have mD : D ∈ A1 ++ D :: (F ++ F5) := List.mem_append_right _ List.mem_cons_self
                  have hu : hd (upd H5 D (.lst (xs ++ [v]))) (A1 ++ D :: (F ++ F5)) = hd H5 (A1 ++ D :: (F ++ F5)) := hd_upd mD
                  have ss5 : Same (hd H4 (A1 ++ D :: F)) (hd H5 (A1 ++ D :: (F ++ F5))) := hd_same s5 fun a ha => by
                    rw [← e7] at ha
                    exact (List.mem_append.mp ha).elim .inl fun z => .inr (f5 a z)
                  have nDF : D ∉ F := (List.nodup_cons.mp h5).1
                  have nDF5 : D ∉ F5 := fun z => by
                    have := f5 D z
                    rw [h6''] at this
                    cases this
                  have nFF : ∀ b ∈ F, b ∉ F5 := fun b hb z => h7''.dom b hb (f5 b z)
                  refine ⟨ts ++ [t], xs ++ [v], F ++ F5, hi', by simp; omega, fun b o z => ?_, fun a ha => ?_, ?_, upd_same, ?_, ?_, ?_, us', e5, ?_⟩
                  · have nb : b ≠ D := ne_of_none z hD
                    rw [upd_ne nb]
                    exact s5 _ _ (h3'' _ _ z)
                  · rcases List.mem_cons.mp ha with rfl | ha
                    · exact hD
                    · rcases List.mem_append.mp ha with z | z
                      · exact h4 a (List.mem_cons_of_mem _ z)
                      · exact h3''.free (f5 a z)
                  · refine List.nodup_cons.mpr ⟨fun z => (List.mem_append.mp z).elim nDF nDF5, List.nodup_append.mpr ⟨(List.nodup_cons.mp h5).2, n5, fun x hx y hy z => nFF x hx (z ▸ hy)⟩⟩
                  · rw [hu]
                    refine (h7''.mono (H' := upd H5 D (.lst (xs ++ [v]))) ss5 fun b hb => ?_).append ?_
                    · rw [upd_ne fun z => nDF (by rw [← z]; exact hb)]
                      exact keep5 b (h7''.dom b hb)
                    · rw [e7] at r5
                      have q5 := RTs.cons (r5.mono (H' := upd H5 D (.lst (xs ++ [v]))) (Same.refl _) fun b hb => upd_ne fun z => nDF5 (by rw [← z]; exact hb)) .nil
                      rw [List.append_nil] at q5
                      exact q5
                  · rw [hu]; exact up _ _ ss5 h8''
                  · rw [hu]
                    refine h9''.mono ss5 fun b hb => ?_
                    rw [upd_ne fun z => nDA (sub _ (w3 _ (by rw [← z]; exact hb)))]
                    exact keep5 b (h9''.dom b hb)
                  · rw [h11, ← e6, List.append_assoc]; rfl
        · rintro H' ⟨ts, xs, F, h1, h2, h3, h4, h5, h6, h7, h8, h9, us, h10, h11⟩
          rw [List.drop_length] at h10
          cases h10
          rw [List.append_nil] at h11
          subst h11
          refine k (.ref D) H' (D :: F) (s1.trans h3) (fun a ha => s1.free (h4 a ha)) h5 (.l h6 h7)
    · rw [if_neg hz] at k; exact k.elim
/-- the contexts of a comprehension's block -/
abbrev blkF (X : ι → Cx) (scope : Scope) : ι × Shared × Hp × Addr × List (Str × Addr) × List Addr → Cx := fun p => (X p.1).blk p.2.1 p.2.2.1 scope (compEnvC scope p.2.2.2.2.1 p.2.2.2.1 (X p.1).env) p.2.2.2.2.2
def JTs (K : PySem.W.Frag) (cl : Cl) {ι : Type} (X : ι → Cx) (ifs : List Expr) (m : MB) : Prop := (∀ ξ, (X ξ).K = K) ∧ ∃ t, (∀ ξ, PTs (X ξ) ifs t) ∧ SB K cl noE t m
theorem jts_nil (hK : ∀ ξ, (X ξ).K = K) : JTs K cl X [] (fun _ => .ok true) := ⟨hK, tYes, fun _ => pts_nil, fun σ H e A1 st Q k => k H (Same.refl _)⟩
theorem jts_one {m : MB} (h : JB K cl noE X a m) : JTs K cl X [a] m := by
  obtain ⟨hK, t, p, s⟩ := h
  exact ⟨hK, t, fun ξ => pts_one (p ξ), s⟩
/-- [elt for tg in iter if ..] -/
theorem je_lc {elt iter : Expr} {ifs : List Expr} {scope : Scope} (own : List (Str × Nat)) {vs : List Nat} {mi : Env → RL} {mt : D → Env → Option Env} {ns : List Nat} {mtt : MB} {me : ME} (hc : ∀ ξ, (X ξ).calm = true) (hN : ∀ ξ, (X ξ).N.Nodup) (hi : JI K cl E X tg iter mi) (ok : ∀ ξ, BlkOk (X ξ).N (X ξ).env.scope scope own)
    (hg : JG K cl (blkF X scope) tg mt ns) (ht : JTs K cl (blkF X scope) ifs mtt) (he : JE K cl noE (blkF X scope) elt me) (hn : ∀ n ∈ ns, n ∈ own.map (·.2)) (hvs : own.map (·.2) = vs) (hs : ∀ ξ, ∀ x, foldedSetIterable iter (X ξ).env x = pure x := by intro _ _; rfl) :
    JE K cl E X (.ListComp elt [⟨tg, iter, ifs, 0⟩] scope pos) (mLc vs mi mt mtt me) := by
  subst hvs
  obtain ⟨hK, t, p, s⟩ := hi
  obtain ⟨_, g, pg, sg⟩ := hg
  obtain ⟨_, tt, pt, st⟩ := ht
  obtain ⟨_, te, pe, se⟩ := he
  exact ⟨hK, _, fun ξ => pe_lc (hc ξ) (hN ξ) (p ξ) (ok ξ) (fun s H C cc fp => pg (ξ, s, H, C, cc, fp)) (fun s H C cc fp => pt (ξ, s, H, C, cc, fp)) (fun s H C cc fp => pe (ξ, s, H, C, cc, fp)) (hs ξ), se_lc s sg st se hn⟩
/-- name = [elt for tg in iter if ..], on one line -/
theorem js_lc {elt iter : Expr} {ifs : List Expr} {scope : Scope} (own : List (Str × Nat)) {j : Nat} {y : Str} {py : Pos} {vs : List Nat} {mi : Env → RL} {mt : D → Env → Option Env} {ns : List Nat} {mtt : MB} {me : ME} (hc : ∀ ξ, (X ξ).calm = true) (hN : ∀ ξ, (X ξ).N.Nodup) (hi : JI K cl E X tg iter mi) (ok : ∀ ξ, BlkOk (X ξ).N (X ξ).env.scope scope own)
    (hg : JG K cl (blkF X scope) tg mt ns) (ht : JTs K cl (blkF X scope) ifs mtt) (he : JE K cl noE (blkF X scope) elt me) (hn : ∀ n ∈ ns, n ∈ own.map (·.2)) (hvs : own.map (·.2) = vs) (hsw : ∀ ξ, swapsWith (.ListComp elt [⟨tg, iter, ifs, 0⟩] scope pos') (some (.Name y py)) pos.line (X ξ).env = pure true)
    (hy : ∀ ξ, (X ξ).N[j]? = some y := by intro _; rfl) (hyl : ∀ ξ, (X ξ).env.scope.names.lookup y = some .local := by intro _; rfl) (hs : ∀ ξ, ∀ x, foldedSetIterable iter (X ξ).env x = pure x := by intro _ _; rfl) :
    JS K cl E X (.Assign [.Name y py] (.ListComp elt [⟨tg, iter, ifs, 0⟩] scope pos') pos) (mAsg j (mLc vs mi mt mtt me)) := by
  subst hvs
  obtain ⟨hK, t, p, s⟩ := hi
  obtain ⟨_, g, pg, sg⟩ := hg
  obtain ⟨_, tt, pt, st⟩ := ht
  obtain ⟨_, te, pe, se⟩ := he
  exact ⟨hK, _, fun ξ => ps_setLc (hc ξ) (hN ξ) (hy ξ) (hyl ξ) (hsw ξ) (p ξ) (ok ξ) (fun s H C cc fp => pg (ξ, s, H, C, cc, fp)) (fun s H C cc fp => pt (ξ, s, H, C, cc, fp)) (fun s H C cc fp => pe (ξ, s, H, C, cc, fp)) (hs ξ), ss_asg (se_lc s sg st se hn)⟩
end
end Nd

namespace Nd
open PySem PySem.Spec PyProof.Rows L2

/-! ### defs that are run where no guard stands (repr of lists asks for it) -/
/-- room, and no repr under way -/
structure RoomG (k : Nat) (A : Around) : Prop where
  r : Room k A
  g : A.guards = some []
theorem RoomG.mono {j k : Nat} {A : Around} (h : RoomG k A) (q : j ≤ k) : RoomG j A := ⟨h.r.mono q, h.g⟩
theorem RoomG.deeper {k : Nat} {A : Around} (h : RoomG (k + 1) A) (env : PySem.Env) : RoomG k (A.deeper env) := ⟨h.r.deeper env, h.g⟩
theorem RoomG.in1 {k : Nat} {A : Around} (h : RoomG (k + 1) A) : RoomG k A.in1 := ⟨h.r.in1, h.g⟩
theorem RoomG.make {k : Nat} {A : Around} (h : RoomG (k + 1) A) (C : Addr) (us : List Value) : RoomG k (A.under (.builtin "type.__call__" ⟨.ref C :: us, []⟩)) := by
  refine ⟨h.r.make C us [], ?_⟩
  have : (Code.builtin "type.__call__" ⟨.ref C :: us, []⟩).guards = [] := by
    first
      | rfl
      | (unfold Code.guards; rw [if_neg (by simp [Code.isGuard, guardIds])])
  show pushGuards (Code.builtin "type.__call__" ⟨.ref C :: us, []⟩).guards A.guards = some []
  rw [this, h.g]
  rfl
structure FnG (P : Program) (w : World) (K : PySem.W.Frag) (mg : Str → Option Value) (base : Heap) (CX : CXT) (k : Nat) (f : Addr) (fd : FuncData) (ps : List Str) (sp : Sp) : Prop where
  len : ∀ vs H Q E, sp vs H Q E → vs.length = ps.length
  run : ∀ (A : Around) (outer : List PySem.Env) (s : Shared) (H : Hp) (args : Args) (us : List Value) (vs : List V) (Q : VK) (E : XK), RoomG k A → Env0 P w K mg base A outer s H → BindsTo s fd args (ps.zip us) → Vals vs us → sp vs H Q E →
    codeAny (model P w) A (.call (.ref f) args) (CR CX outer P w H s Q E) s
theorem FnG.imp {P : Program} {w : World} {K : PySem.W.Frag} {mg : Str → Option Value} {base : Heap} {CX : CXT} {k : Nat} {f : Addr} {fd : FuncData} {ps : List Str} {sp sp' : Sp} (F : FnG P w K mg base CX k f fd ps sp)
    (h : ∀ vs H Q E, sp' vs H Q E → sp vs H Q E) : FnG P w K mg base CX k f fd ps sp' :=
  ⟨fun vs H Q E q => F.len vs H Q E (h _ _ _ _ q), fun A outer s H args us vs Q E hr he hb hv hs => F.run A outer s H args us vs Q E hr he hb hv (h _ _ _ _ hs)⟩
section
variable {X : Cx} {CX : CXT} {k : Nat} {f C : Addr} {fd : FuncData} {ps : List Str} {sp : Sp} {E : L2.St → XK} {x m : Str} {p pos apos : Pos} {e o : Expr} {es : List Expr} {ta : TE} {t : TA}
theorem run_fnG {pins : List (Addr × Obj)} {σ : L2.St} {H : Hp} {s : Shared} {Q : VK} {us : List Value} {vs : List V} (F : FnG X.prog X.w X.K X.mg X.base CX k f fd ps sp) (hr : RoomG k X.A) (hb : Binds X.K fd ps []) (hx : PassesAt CX X σ (E σ))
    (I : Inv X pins σ H s) (r : Vals vs us) (h : sp vs H Q (E σ)) : wpAny (model X.prog X.w) X.A (call (.ref f) us) (EP X pins σ Q) X.xe s := by
  have b := hb s us I.kIn (by rw [List.append_nil, ← r.length]; exact F.len _ _ _ _ h)
  rw [List.append_nil] at b
  refine wpAny_call (codeAny_mono (F.run X.A X.stack s H ⟨us, []⟩ us vs Q (E σ) hr I.env0 b r h) fun z s' hq => ?_)
  cases z with
  | error u => exact hx pins H s u s' I hq
  | ok fl =>
    cases fl with
    | ret u => exact I.after hq
    | next => exact hq.elim
    | brk => exact hq.elim
    | cont => exact hq.elim
end
section
variable {X : Cx} {CX : CXT} {k : Nat} {f C : Addr} {fd : FuncData} {ps : List Str} {sp : Sp} {E : L2.St → XK} {x : Str} {p pos : Pos} {e : Expr} {es : List Expr} {t : TA}
theorem pe_callG (F : FnG X.prog X.w X.K X.mg X.base CX k f fd ps sp) (hr : RoomG k X.A) (hg : Gl X x) (hm : X.mg x = some (.ref f)) (hk : PySem.W.keepIn X.K (.ref f) = true) (hb : Binds X.K fd ps []) (hx : ∀ σ, PassesAt CX X σ (E σ))
    (ha : PA X (e :: es) t) (hdb : (x == ("__debug__" : Str)) = false) (he : starEach (e :: es) X.env = (false, eval e X.env) :: starEach es X.env) (hpl : (backTo pos (starEach es X.env)).any (·.1) = false) :
    PE X (.Call (.Name x p) (e :: es) [] pos) (tCallS sp E t) := by
  constructor
  intro pins s σ H Q I h
  exact wpAny_Call_Name_kw (ld_glob I hg hm (PySem.W.callWith_K (h₀ := X.base) I.ok.mod.kin hk (thn (ha.run pos pins s σ H _ I h) fun us s1 ⟨vs, H1, I1, r, q⟩ => ⟨I1.kIn, run_fnG F hr hb (hx σ) I1 r q⟩) he hpl) hdb)
/-- e.f, a property -/
theorem pe_propG {fl : Str} {pr g : Addr} {ta : TE} (he : PE X e ta) (c : Cls X.K C) (hp : PropOf X.K C fl pr g) (F : FnG X.prog X.w X.K X.mg X.base CX k g fd ps sp) (hr : RoomG (k + 1) X.A) (hb : Binds X.K fd ps [])
    (hx : ∀ H s er s', CX X.stack H s (fun _ _ _ => False) er s' → False) (hab : attributeBase e fl X.env (eval e X.env) = eval e X.env) : PE X (.Attribute e fl pos) (tProp C sp [] (fun _ _ _ => False) ta) := by
  constructor
  intro pins s σ H Q I h
  refine attr_of hab (thn (he.run pins s σ H _ I h) fun u s1 ⟨x, H1, I1, rx, a, dx, fs, ex, ea, q⟩ => ?_)
  cases ex
  cases (show u = Value.ref a from rx)
  obtain ⟨mA, O, _, _, _, _⟩ := ins_get I1.hok ea
  obtain ⟨od, J, _⟩ := O.look
  obtain ⟨rest, hrec⟩ := hp.rec_
  have I2 := I1.tok (s1.toks + 1)
  obtain ⟨cd, hcd, _⟩ := PySem.W.any_some c.hd
  have hc : (PySem.W.clsIn X.K C).isSome = true := by rw [hcd]; rfl
  have b := hb { s1 with toks := s1.toks + 1 } [.ref a] I2.kIn (by rw [List.append_nil, ← F.len _ _ _ _ q]; rfl)
  rw [List.append_nil] at b
  refine PySem.W.get_bind I1.kIn J (PySem.W.plainGet_of (c.get fl)).1 (PySem.W.findObj_data hc hp.at_ hp.get hp.tak) (PySem.W.plainGet_of (c.get fl)).2 (wpAny_call (PySem.W.prop_get (s := { s1 with toks := s1.toks + 1 }) I1.kIn hrec ?_))
  refine codeAny_mono (F.run X.A.in1 X.stack { s1 with toks := s1.toks + 1 } H1 ⟨[.ref a], []⟩ [.ref a] [.ref a] Q _ hr.in1 I2.env0.in1 b (.cons rfl .nil) q) fun z s' hq => ?_
  cases z with
  | error er => exact (hx H1 _ er s' hq).elim
  | ok fl2 =>
    cases fl2 with
    | ret u2 =>
      obtain ⟨v, H', I3, rv, q3⟩ := I2.after hq
      show wpAny _ _ (handedOut u2) _ _ _
      rw [PySem.W.handedOut_of (handed_of rv)]
      exact wpAny_pure ⟨v, H', I3, rv, q3⟩
    | next => exact hq.elim
    | brk => exact hq.elim
    | cont => exact hq.elim
end
section
variable {P : Program} {w : World} {K : PySem.W.Frag} {mg : Str → Option Value} {base : Heap}
/-- THE RULE for a def, by the walk of its body -/
theorem fnG_of {CX : CXT} {x qual : Str} {st : Stmt} {f : Addr} {fd : FuncData} {N ps : List Str} {k : Nat} {sp : Sp} (F : Fun K x qual st f fd) (S : FnScope N ps (defScope st)) (len : ∀ vs H Q E, sp vs H Q E → vs.length = ps.length)
    (body : ∀ (cdv : Value) (A : Around) (outer : List PySem.Env) (s : Shared) (H : Hp) (vs : List V) (Q : VK) (E : XK), RoomG k (A.deeper (envOfC qual (defScope st) s.heap.objs.size f cdv)) → sp vs H Q E →
      ∃ t, PSs (cxOf CX P w K mg base N qual (defScope st) f cdv A outer s H E) (defBody st) t ∧ t { nx := fun _ H' => Q .non H', rt := Q } (L2.start N vs) H) : FnG P w K mg base CX (k + 1) f fd ps sp := by
  obtain ⟨oc, od, kV, doc, pm, an, cdv, ct, osl, rfl, lk, hcd⟩ := F.ex
  refine ⟨len, fun A outer s H args us vs Q E hr e0 hb r hsp => ?_⟩
  have hl := len _ _ _ _ hsp
  have old : ∀ b o, base.get? b = some o → s.heap.get? b = some o := fun b o e => (e0.bs b o e).1
  have KX : K.In s.heap := e0.mod.kin.keeps old
  refine codeAny_call_function hr.r.depth (KX _ _ lk) rfl S.co S.gen rfl (PySem.W.codeRec_of KX hcd) (hb _ _ _ _ ?_)
  refine wpAny_newFunctionEnv_cells S.kind (fun y hy => ?_) fun env he s1 x1 => ?_
  · obtain ⟨n, v⟩ := y
    rcases S.par n (List.of_mem_zip hy).1 with q | q
    · exact .inl q
    · exact .inr ⟨q, PySem.W.cellsFrom_some _ _ _ (.inl q)⟩
  cases he
  refine ⟨(e0.mod.nolimit.keeps old).keeps x1.toInCall.keep, codeAny_func ?_⟩
  obtain ⟨t, ht, hq⟩ := body cdv A outer s H vs Q E (hr.deeper _) hsp
  refine wpAny_mono (ht.run [] s1 (L2.start N vs) H _ (inv_start S hr.r.hd e0 hl r x1) hq) (fun fl s' hs => ?_) fun _ _ z => z
  cases fl with
  | ret u => obtain ⟨v, σ', H', J, rv, q⟩ := hs; exact ⟨v, H', J.os, J.bare, J.base, J.hok, rv, q⟩
  | next => obtain ⟨σ', H', J, q⟩ := hs; exact ⟨.non, H', J.os, J.bare, J.base, J.hok, rfl, q⟩
  | brk => obtain ⟨_, _, _, q⟩ := hs; exact q.elim
  | cont => obtain ⟨_, _, _, q⟩ := hs; exact q.elim
end
end Nd

namespace Nd
open PySem PySem.Spec PyProof.Rows L2

/-! ### a def's promise: what the mirror gives -/
def spM (K : PySem.W.Frag) (cl : Cl) (n : Nat) (M : List D → RE) : Sp := fun vs H Q E => ∃ ds B, ds.length = n ∧ RpA K cl (hd H B) vs ds ∧ (∀ a ∈ B, Ow (H a)) ∧ EPost K cl E H B Q (M ds)
theorem spM_len {K : PySem.W.Frag} {cl : Cl} {n : Nat} {M : List D → RE} {vs : List V} {H : Hp} {Q : VK} {E : XK} (h : spM K cl n M vs H Q E) : vs.length = n := by
  obtain ⟨ds, B, hl, r, _⟩ := h
  rw [r.length, hl]
def env0 (n : Nat) (ds : List D) : Env := ds.map (fun d => some (T.p d)) ++ List.replicate (n - ds.length) none
def mDef (n : Nat) (m : MS) : List D → RE := fun ds => match m (env0 n ds) with
  | .rt t => .ok t
  | .nx _ => .ok (.p .non)
  | .exc x _ => .exc x
  | _ => .bad
theorem rsl_none {K : PySem.W.Frag} {cl : Cl} {G H : Hp} : ∀ n : Nat, RSl K cl G H (List.replicate n none) (List.replicate n none) []
  | 0 => .nil
  | n + 1 => .skip (rsl_none n)
theorem rsl_start {K : PySem.W.Frag} {cl : Cl} {G H : Hp} (n : Nat) : ∀ {vs : List V} {ds : List D}, RpA K cl G vs ds → RSl K cl G H (vs.map some ++ List.replicate n none) (ds.map (fun d => some (T.p d)) ++ List.replicate n none) []
  | _, _, .nil => rsl_none n
  | _, _, .cons h1 h2 => by
    have q := RSl.cons (F := []) (A := []) (.p h1) (rsl_start (H := H) n h2)
    exact q
section
variable {P : Program} {w : World} {K : PySem.W.Frag} {mg : Str → Option Value} {base : Heap} {cl : Cl}
/-- THE RULE for a def -/
theorem def_ok {x qual : Str} {st : Stmt} {f : Addr} {fd : FuncData} {N ps : List Str} {k : Nat} {m : MS} (F : Fun K x qual st f fd) (S : FnScope N ps (defScope st))
    (body : ∀ (cdv : Value) (A : Around) (outer : List PySem.Env) (s : Shared) (H : Hp) (E : XK), RoomG k (A.deeper (envOfC qual (defScope st) s.heap.objs.size f cdv)) →
      JSs K cl (fun _ => E) (fun _ : Unit => cxOf (L2.CX P w) P w K mg base N qual (defScope st) f cdv A outer s H E) (defBody st) m) :
    FnG P w K mg base (L2.CX P w) (k + 1) f fd ps (spM K cl ps.length (mDef N.length m)) := by
  refine fnG_of F S (fun vs H Q E h => spM_len h) (fun cdv A outer s H vs Q E hr h => ?_)
  obtain ⟨_, t, p, ss⟩ := body cdv A outer s H E hr
  refine ⟨t, p (), ?_⟩
  obtain ⟨ds, B, hl, r, o, k⟩ := h
  have e0 : L2.start N vs = vs.map some ++ List.replicate (N.length - ds.length) none := by unfold L2.start; rw [r.length]
  refine ss ⟨B, H, fun _ => True, fun _ _ _ _ => trivial, o⟩ (L2.start N vs) H (env0 N.length ds) ⟨[], List.nodup_nil, fun a ha => by simp at ha, Same.refl _, trivial, ?_⟩ _ ?_
  · rw [e0, List.append_nil]
    exact rsl_start _ r
  · unfold mDef at k
    cases q : m (env0 N.length ds) with
    | bad => rw [q] at k; exact k
    | nx e =>
      rw [q] at k
      rintro σ H' ⟨A', nd, fr, s', _, _⟩
      exact OkP.pure k s' .non
    | bk e => rw [q] at k; exact k.elim
    | ct e => rw [q] at k; exact k.elim
    | rt t =>
      rw [q] at k
      rintro v H' ⟨F, nd, fr, s', r'⟩
      exact k v H' F s' fr nd r'
    | exc x e =>
      rw [q] at k
      rintro σ H' cv d ⟨A', nd, fr, s', _, _⟩ er
      exact k cv d H' s' er
end

section
variable {K : PySem.W.Frag} {cl : Cl} {E : L2.St → XK} {ι : Type} {X : ι → Cx} {a b : Expr} {ma mb : ME} {pos pos' apos : Pos} {es : List Expr}
/-! ### calls -/
def mCall (n : Nat) (M : List D → RE) (ms : Env → RL) : ME := fun e => match ms e with
  | .ok ds => if ds.length = n then M ds else .bad
  | .exc x => .exc x
  | .bad => .bad
theorem je_call {k n : Nat} {f : Addr} {fd : FuncData} {ps : List Str} {x : Str} {p : Pos} {M : List D → RE} {ms : Env → RL} (F : ∀ ξ, FnOk (X ξ).prog (X ξ).w (X ξ).K (X ξ).mg (X ξ).base (L2.CX (X ξ).prog (X ξ).w) k f fd ps (spM K cl n M))
    (hr : ∀ ξ, Room k (X ξ).A) (hg : ∀ ξ, Gl (X ξ) x) (hm : ∀ ξ, (X ξ).mg x = some (.ref f)) (hk : ∀ ξ, PySem.W.keepIn (X ξ).K (.ref f) = true) (hb : ∀ ξ, Binds (X ξ).K fd ps []) (hx : ∀ ξ σ, PassesAt (L2.CX (X ξ).prog (X ξ).w) (X ξ) σ (E σ))
    (ha : JA K cl E X (a :: es) ms) (he : ∀ ξ, starEach (a :: es) (X ξ).env = (false, eval a (X ξ).env) :: starEach es (X ξ).env := by intro _; rfl) (hpl : ∀ ξ, (backTo pos (starEach es (X ξ).env)).any (·.1) = false := by intro _; rfl)
    (hdb : (x == ("__debug__" : Str)) = false := by decide) : JE K cl E X (.Call (.Name x p) (a :: es) [] pos) (mCall n M ms) := by
  obtain ⟨hK, t, pa, s⟩ := ha
  refine ⟨hK, _, fun ξ => pe_callS (F ξ) (hr ξ) (hg ξ) (hm ξ) (hk ξ) (hb ξ) (hx ξ) (pa ξ) hdb (he ξ) (hpl ξ), fun σ H e A1 st Q k => ?_⟩
  refine s σ H e A1 st _ ?_
  unfold mCall at k
  cases q : ms e with
  | bad => rw [q] at k; exact k
  | exc x => rw [q] at k; exact k
  | ok ds =>
    rw [q] at k
    simp only at k
    intro vs H1 u r
    by_cases hl : ds.length = n
    · rw [if_pos hl] at k
      exact ⟨ds, A1, hl, r, fun a ha => (st.1 a ha).same u, k.up u⟩
    · rw [if_neg hl] at k; exact k.elim

/-! ### what is owned is changed -/
theorem RTs.at {G H : Hp} {vs : List V} {ts : List T} {F : List Addr} (h : RTs K cl G H vs ts F) (nd : F.Nodup) {i : Nat} {t : T} (q : ts[i]? = some t) : ∃ v F0 F1 F2, vs[i]? = some v ∧ F = F1 ++ F0 ++ F2 ∧ RT K cl G H v t F0 ∧
    ∀ G2 H2 v2 t2 F3, Same G G2 → (∀ b, b ∉ F0 → b ∈ F → H2 b = H b) → RT K cl G2 H2 v2 t2 F3 → RTs K cl G2 H2 (vs.set i v2) (ts.set i t2) (F1 ++ F3 ++ F2) := by
  induction ts generalizing vs F i with
  | nil => simp at q
  | cons t0 ts ih =>
    cases h with
    | cons h1 h2 =>
      rename_i v0 vs' Fa Fb
      have nd' := List.nodup_append.mp nd
      cases i with
      | zero =>
        simp at q
        subst q
        refine ⟨v0, Fa, [], Fb, rfl, rfl, h1, fun G2 H2 v2 t2 F3 s k r => .cons r (RTs.mono s (fun b hb => k b (fun z => nd'.2.2 b z b hb rfl) (List.mem_append_right _ hb)) h2)⟩
      | succ i =>
        obtain ⟨v, F0, F1, F2, e1, e2, e3, e4⟩ := ih h2 nd'.2.1 (i := i) (by simpa using q)
        refine ⟨v, F0, Fa ++ F1, F2, by simpa using e1, by rw [e2]; simp only [List.append_assoc], e3, fun G2 H2 v2 t2 F3 s k r => ?_⟩
        rw [List.append_assoc, List.append_assoc, ← List.append_assoc F1]
        refine .cons (h1.mono s fun b hb => k b (fun z => ?_) (List.mem_append_left _ hb)) (e4 G2 H2 v2 t2 F3 s (fun b z hb => k b z (List.mem_append_right _ hb)) r)
        exact nd'.2.2 b hb b (by rw [e2]; exact List.mem_append_left _ (List.mem_append_right _ z)) rfl
/-- the change of one owned tree, at slot i: H2 is H but at addresses of F, new ones F3 may come -/
theorem SRA.change {c : Cn} {σ : L2.St} {H1 H2 : Hp} {e : Env} {A A1 A2 F F2 : List Addr} {v : V} {t2 : T} {i : Nat} (h : SRA K cl c σ H1 e A) (hA : A = A1 ++ F ++ A2)
    (hset : ∀ G2 H2 t2 F2, Same (hd H1 (c.B ++ A)) G2 → (∀ b, b ∉ F → b ∈ A → H2 b = H1 b) → RT K cl G2 H2 v t2 F2 → RSl K cl G2 H2 σ (e.set i (some t2)) (A1 ++ F2 ++ A2))
    (keep : ∀ b, b ∉ F → H1 b ≠ none → H2 b = H1 b) (ndF : F2.Nodup) (fr : ∀ a ∈ F2, a ∈ F ∨ H1 a = none) (r : RT K cl (hd H2 (c.B ++ (A1 ++ F2 ++ A2))) H2 v t2 F2) (sub : ∀ a ∈ F, c.H0 a = none) : SR K cl c σ H2 (e.set i (some t2)) := by
  obtain ⟨nd, f, s, g, rs⟩ := h
  subst hA
  have nd1 := List.nodup_append.mp nd
  have nd2 := List.nodup_append.mp nd1.1
  have inA : ∀ a, a ∈ A1 ++ A2 → a ∈ A1 ++ F ++ A2 := fun a ha => (List.mem_append.mp ha).elim (fun z => List.mem_append_left _ (List.mem_append_left _ z)) (List.mem_append_right _)
  have dj : ∀ a ∈ A1 ++ A2, a ∉ F2 := fun a ha z => by
    rcases fr a z with q | q
    · rcases List.mem_append.mp ha with w | w
      · exact nd2.2.2 a w a q rfl
      · exact nd1.2.2 a (List.mem_append_right _ q) a w rfl
    · exact rs.dom a (inA a ha) q
  have s0 : Same c.H0 H2 := fun b o hb => by
    have hb1 := s b o hb
    rw [keep b (fun z => by rw [sub b z] at hb; cases hb) (by rw [hb1]; simp)]
    exact hb1
  have ss : Same (hd H1 (c.B ++ (A1 ++ F ++ A2))) (hd H2 (c.B ++ (A1 ++ F2 ++ A2))) := fun b o hb => by
    obtain ⟨n1, e1⟩ := hd_some.mp hb
    have nF : b ∉ F := fun z => n1 (List.mem_append_right _ (List.mem_append_left _ (List.mem_append_right _ z)))
    refine hd_some.mpr ⟨fun z => ?_, by rw [keep b nF (by rw [e1]; simp)]; exact e1⟩
    rcases List.mem_append.mp z with z | z
    · exact n1 (List.mem_append_left _ z)
    · rcases List.mem_append.mp z with z | z
      · rcases List.mem_append.mp z with z | z
        · exact n1 (List.mem_append_right _ (inA b (List.mem_append_left _ z)))
        · rcases fr b z with q | q
          · exact nF q
          · rw [e1] at q; cases q
      · exact n1 (List.mem_append_right _ (inA b (List.mem_append_right _ z)))
  refine ⟨A1 ++ F2 ++ A2, ?_, fun a ha => ?_, s0, c.up _ _ ss g, hset _ _ _ _ ss (fun b hb hA => keep b hb (rs.dom b hA)) r⟩
  · refine List.nodup_append.mpr ⟨List.nodup_append.mpr ⟨nd2.1, ndF, fun x hx y hy z => dj x (List.mem_append_left _ hx) (z ▸ hy)⟩, nd1.2.1, fun x hx y hy z => ?_⟩
    rcases List.mem_append.mp hx with q | q
    · exact nd1.2.2 x (List.mem_append_left _ q) y hy z
    · exact dj y (List.mem_append_right _ hy) (z ▸ q)
  · rcases List.mem_append.mp ha with z | z
    · rcases List.mem_append.mp z with z | z
      · exact f a (inA a (List.mem_append_left _ z))
      · rcases fr a z with q | q
        · exact f a (List.mem_append_left _ (List.mem_append_right _ q))
        · exact s.free q
    · exact f a (inA a (List.mem_append_right _ z))
/-- x.append(e), x owned -/
def mApp (i : Nat) (m : ME) : MS := fun e => match e[i]? with
  | some (some (.l ts)) => (match m e with
    | .ok t => if ts.length < sizeLine then .nx (e.set i (some (.l (ts ++ [t])))) else .bad
    | .exc x => .exc x e
    | .bad => .bad)
  | _ => .bad
theorem ss_app {te : TE} {i : Nat} (s : SE K cl E te ma) : SS K cl E (tDrop (tBM K "list" rAppend (tVar i) (tCons te tNil))) (mApp i ma) := fun c σ H e hs D k => by
  obtain ⟨A, h⟩ := hs
  unfold mApp at k
  cases q : e[i]? with
  | none => rw [q] at k; exact k.elim
  | some o =>
    cases o with
    | none => rw [q] at k; exact k.elim
    | some t0 =>
      rw [q] at k
      cases t0 with
      | p d => exact k.elim
      | k ks ts => exact k.elim
      | i C ks ts tg => exact k.elim
      | l ts =>
        simp only at k
        obtain ⟨v, F, A1, A2, h1, h2, h3, h4⟩ := h.2.2.2.2.at h.1 q
        cases h3 with
        | l h5 h6 =>
          rename_i a xs F0
          refine ⟨.ref a, h1, Or.inl ⟨rfl, _, SqL.of h5⟩, ?_⟩
          refine s σ H e _ h.ste _ ?_
          cases q1 : ma e with
          | bad => rw [q1] at k; exact k
          | exc x => rw [q1] at k; exact fun cv d H2 s2 r => k σ H2 cv d ⟨A, h.up s2⟩ r
          | ok t =>
            rw [q1] at k
            simp only at k
            by_cases hl : ts.length < sizeLine
            · rw [if_pos hl] at k
              intro y H2 Fy s2 fy ny ry
              have h5' : H2 a = some (.lst xs) := s2 _ _ h5
              refine ⟨a, xs, y, rfl, rfl, h5', by rw [h6.length]; exact hl, k σ _ ?_⟩
              have nd0 : (A1 ++ (a :: F0) ++ A2).Nodup := h2 ▸ h.1
              have ndF : (a :: F0).Nodup := (List.nodup_append.mp (List.nodup_append.mp nd0).1).2.1
              have sF : ∀ b ∈ a :: F0, b ∈ A := fun b hb => by rw [h2]; exact List.mem_append_left _ (List.mem_append_right _ hb)
              have na : a ∉ F0 := (List.nodup_cons.mp ndF).1
              have nay : a ∉ Fy := fun z => by
                have := fy a z
                rw [h5] at this
                cases this
              have dF : ∀ b ∈ F0, b ∉ Fy := fun b hb z => h6.dom b hb (fy b z)
              have ndn : (a :: (F0 ++ Fy)).Nodup := List.nodup_cons.mpr ⟨fun z => (List.mem_append.mp z).elim na nay, List.nodup_append.mpr ⟨(List.nodup_cons.mp ndF).2, ny, fun x hx y hy z => dF x hx (z ▸ hy)⟩⟩
              have kp : ∀ b, b ≠ a → H b ≠ none → (upd H2 a (.lst (xs ++ [y]))) b = H b := fun b nb hn => by
                rw [upd_ne nb]
                cases z : H b with
                | none => exact absurd z hn
                | some u => exact s2 b u z
              have sub : ∀ b, b ∈ c.B ++ (A1 ++ (a :: (F0 ++ Fy)) ++ A2) → b ∈ c.B ++ A ∨ H b = none := fun b hb => by
                rcases List.mem_append.mp hb with z | z
                · exact .inl (List.mem_append_left _ z)
                · rcases List.mem_append.mp z with z | z
                  · rcases List.mem_append.mp z with z | z
                    · exact .inl (List.mem_append_right _ (by rw [h2]; exact List.mem_append_left _ (List.mem_append_left _ z)))
                    · rcases List.mem_cons.mp z with rfl | z
                      · exact .inl (List.mem_append_right _ (sF _ List.mem_cons_self))
                      · rcases List.mem_append.mp z with z | z
                        · exact .inl (List.mem_append_right _ (sF _ (List.mem_cons_of_mem _ z)))
                        · exact .inr (fy b z)
                  · exact .inl (List.mem_append_right _ (by rw [h2]; exact List.mem_append_right _ z))
              have mA : a ∈ c.B ++ (A1 ++ (a :: (F0 ++ Fy)) ++ A2) := List.mem_append_right _ (List.mem_append_left _ (List.mem_append_right _ List.mem_cons_self))
              have s4 : Same (hd H (c.B ++ A)) (hd (upd H2 a (.lst (xs ++ [y]))) (c.B ++ (A1 ++ (a :: (F0 ++ Fy)) ++ A2))) := by
                rw [hd_upd mA]
                exact hd_same s2 sub
              have s5 : Same (hd H2 (c.B ++ A ++ Fy)) (hd (upd H2 a (.lst (xs ++ [y]))) (c.B ++ (A1 ++ (a :: (F0 ++ Fy)) ++ A2))) := by
                rw [hd_upd mA]
                refine hd_same (Same.refl _) fun b hb => ?_
                rcases List.mem_append.mp hb with z | z
                · exact .inl (List.mem_append_left _ (List.mem_append_left _ z))
                · rcases List.mem_append.mp z with z | z
                  · rcases List.mem_append.mp z with z | z
                    · exact .inl (List.mem_append_left _ (List.mem_append_right _ (by rw [h2]; exact List.mem_append_left _ (List.mem_append_left _ z))))
                    · rcases List.mem_cons.mp z with rfl | z
                      · exact .inl (List.mem_append_left _ (List.mem_append_right _ (sF _ List.mem_cons_self)))
                      · rcases List.mem_append.mp z with z | z
                        · exact .inl (List.mem_append_left _ (List.mem_append_right _ (sF _ (List.mem_cons_of_mem _ z))))
                        · exact .inl (List.mem_append_right _ z)
                  · exact .inl (List.mem_append_left _ (List.mem_append_right _ (by rw [h2]; exact List.mem_append_right _ z)))
              refine SRA.change h h2 h4 (fun b hb hn => kp b (fun z => hb (z ▸ List.mem_cons_self)) hn) ndn (fun b hb => ?_) (.l upd_same ((h6.mono s4 fun b hb => kp b (fun z => na (z ▸ hb)) (h6.dom b hb)).append ?_)) (fun b hb => h.2.1 b (sF b hb))
              · rcases List.mem_cons.mp hb with rfl | hb
                · exact .inl List.mem_cons_self
                · rcases List.mem_append.mp hb with z | z
                  · exact .inl (List.mem_cons_of_mem _ z)
                  · exact .inr (fy b z)
              · have q5 := RTs.cons (ry.mono (H' := upd H2 a (.lst (xs ++ [y]))) s5 fun b hb => upd_ne fun z => nay (z ▸ hb)) .nil
                rw [List.append_nil] at q5
                exact q5
            · rw [if_neg hl] at k; exact k.elim
end
end Nd

namespace Nd
open PySem PySem.Spec PyProof.Rows L2

section
variable {K : PySem.W.Frag} {cl : Cl} {E : L2.St → XK} {ι : Type} {X : ι → Cx} {a b : Expr} {ma mb : ME} {pos pos' apos cpos : Pos} {es : List Expr}
theorem js_app (i : Nat) {x : Str} (hv : ∀ ξ, PE (X ξ) (.Name x pos') (tVar i)) (h : JE K cl E X a ma)
    (hbase : ∀ ξ, attributeBase (.Name x pos') "append" (X ξ).env (eval (.Name x pos') (X ξ).env) = eval (.Name x pos') (X ξ).env := by intro _; rfl)
    (hfew : ∀ ξ, ((backTo cpos (starEach [a] (X ξ).env)).all (fun x => !x.1) && (backToKw cpos (keywordEach [] (X ξ).env)).all (fun x => x.1.isSome)
      && decide ([a].length + ([] : List Keyword).length + (if ([] : List Keyword).isEmpty then 0 else 1) < 30)) = true := by intro _; rfl)
    (hline : (apos.endLine == cpos.line) = true := by rfl) (hs : ∀ ξ, starEach [a] (X ξ).env = (false, eval a (X ξ).env) :: starEach [] (X ξ).env := by intro _; rfl)
    (hsw : ∀ ξ, swapsWith (.Call (.Attribute (.Name x pos') "append" apos) [a] [] cpos) none pos.line (X ξ).env = pure false := by intro _; rfl) :
    JS K cl E X (.Expr (.Call (.Attribute (.Name x pos') "append" apos) [a] [] cpos) pos) (mApp i ma) := by
  obtain ⟨hK, t, p, s⟩ := h
  exact ⟨hK, _, fun ξ => ps_expr (by
    rw [← hK ξ]
    exact pe_bm PySem.F.plainAttrs_list PySem.F.slot_list_append PySem.F.type_list_append mt_append (hv ξ) (pa_cons (p ξ) pa_nil (hs ξ)) (hbase ξ) (hfew ξ) hline (hs ξ) rfl) (hsw ξ), ss_app s⟩

/-! ### isinstance of built-in types -/
theorem je_bty {x : Str} {n : String} (hK : ∀ ξ, (X ξ).K = K) (hg : ∀ ξ, Gl (X ξ) x) (hm : ∀ ξ, (X ξ).mg x = none) (hv : bootBuiltins x = some (.type n)) (hn : x ≠ "__name__" := by decide) (hd : (x == ("__debug__" : Str)) = false := by decide) :
    JE K cl E X (.Name x pos) (mC (.ty n)) := ⟨hK, _, fun ξ => pe_bltn (hg ξ) (hm ξ) hv (v := .ty n) rfl hn hd, se_c fun _ => .ty n⟩
def D.tyN : D → Option String
  | .non => some "NoneType"
  | .bl _ => some "bool"
  | .int _ => some "int"
  | .str _ => some "str"
  | .lst _ => some "list"
  | .tup _ => some "tuple"
  | .dk _ _ => some "dict"
  | _ => none
theorem rp_ty {H : Hp} {A : List Addr} {v : V} {d : D} {m : String} (h : Rp K cl (hd H A) v d) (e : d.tyN = some m) : TyX K H v (.type m) := by
  cases h with
  | non => cases e; exact .base .non
  | bl b => cases e; exact .base (.bl b)
  | int i => cases e; exact .base (.int i)
  | str x => cases e; exact .base (.str x)
  | lst h1 h2 =>
    cases e
    rcases sqL_hid h1 with (h | ⟨o, h⟩) | ⟨o, its, n, hk, hc, _⟩
    · exact .base (.lst h)
    · exact .base (.frz h)
    · exact .kList hk hc
  | tup h1 h2 =>
    cases e
    rcases sqT_hid h1 with (h | ⟨o, h⟩) | ⟨o, its, n, hk, hc, _⟩
    · exact .base (.tup h)
    · exact .fTuple h
    · exact .kTuple hk hc
  | dk h1 h2 h3 => cases e; exact .base (.dK (hd_le _ _ h1))
  | ins _ _ _ => cases e
  | ty _ => cases e
  | cls _ => cases e
  | ex _ => cases e
def fIsi : List D → Option T
  | [d, .ty n] => (d.tyN.bind fun m => kitB m n).map fun b => .p (.bl b)
  | _ => none
theorem sem_isi : CSem K cl (rIsi K) fIsi := by
  intro H A o vs ds t r e Q k
  unfold fIsi at e
  split at e
  · rename_i d n
    obtain ⟨b, e1, rfl⟩ := Option.map_eq_some_iff.mp e
    obtain ⟨m, e2, e3⟩ := Option.bind_eq_some_iff.mp e1
    obtain ⟨v1, v2, rfl, h1, h2⟩ := r.two
    cases h2
    exact ⟨v1, .ty n, _, _, b, rfl, .ty n, rp_ty h1 e2, kit_ty e3, OkP.pure k (Same.refl _) (.bl _)⟩
  · cases e
theorem je_isi {p : Pos} {ms : Env → RL} (hg : ∀ ξ, Gl (X ξ) "isinstance") (hm : ∀ ξ, (X ξ).mg "isinstance" = none) (ha : JA K cl E X [a, b] ms) (he : ∀ ξ, starEach [a, b] (X ξ).env = (false, eval a (X ξ).env) :: starEach [b] (X ξ).env := by intro _; rfl)
    (hpl : ∀ ξ, (backTo pos (starEach [b] (X ξ).env)).any (·.1) = false := by intro _; rfl) : JE K cl E X (.Call (.Name "isinstance" p) [a, b] [] pos) (mCB fIsi ms) :=
  je_cb (fun ξ => by rw [← ha.1 ξ]; exact call_isi) sem_isi hg hm (by decide +kernel) ha (by decide) (by decide) he hpl
theorem kitB_facts : kitB "int" "int" = some true ∧ kitB "bool" "int" = some true ∧ kitB "NoneType" "int" = some false ∧ kitB "str" "int" = some false ∧ kitB "list" "int" = some false ∧ kitB "tuple" "int" = some false ∧ kitB "dict" "int" = some false ∧
    kitB "int" "bool" = some false ∧ kitB "bool" "bool" = some true ∧ kitB "NoneType" "bool" = some false ∧ kitB "str" "bool" = some false ∧ kitB "list" "bool" = some false ∧ kitB "tuple" "bool" = some false ∧ kitB "dict" "bool" = some false ∧
    kitB "int" "list" = some false ∧ kitB "bool" "list" = some false ∧ kitB "NoneType" "list" = some false ∧ kitB "str" "list" = some false ∧ kitB "list" "list" = some true ∧ kitB "tuple" "list" = some false ∧ kitB "dict" "list" = some false ∧
    kitB "int" "tuple" = some false ∧ kitB "bool" "tuple" = some false ∧ kitB "NoneType" "tuple" = some false ∧ kitB "str" "tuple" = some false ∧ kitB "list" "tuple" = some false ∧ kitB "tuple" "tuple" = some true ∧ kitB "dict" "tuple" = some false ∧
    kitB "int" "str" = some false ∧ kitB "bool" "str" = some false ∧ kitB "NoneType" "str" = some false ∧ kitB "str" "str" = some true ∧ kitB "list" "str" = some false ∧ kitB "tuple" "str" = some false ∧ kitB "dict" "str" = some false := by
  refine ⟨?_, ?_, ?_, ?_, ?_, ?_, ?_, ?_, ?_, ?_, ?_, ?_, ?_, ?_, ?_, ?_, ?_, ?_, ?_, ?_, ?_, ?_, ?_, ?_, ?_, ?_, ?_, ?_, ?_, ?_, ?_, ?_, ?_, ?_, ?_⟩ <;> decide +kernel
end
end Nd

namespace Nd
open PySem PySem.Spec PyProof.Rows L2
/-! ### sorted(set(xs)), xs a list of whole numbers -/
section
variable {P : Program} {w : World} {A : Around} {E : Value → Shared → Prop} {s : Shared}
set_option maxHeartbeats 3200000 in
theorem set_of_list {l : Addr} {items : Array Value} (ns : List Int) {Q : Value → Shared → Prop} (hh : A.handled = none) (hl : s.heap.IsList l items) (hit : IntsAre items.toList ns) (hb : ns.length + 1 < scanBound)
    (h : ∀ (h' : Heap) (tk c : Nat), SetR w h' s.heap.objs.size (fun j => decide (j ∈ ns)) c → c ≤ ns.length → (∀ b o, s.heap.get? b = some o → h'.get? b = some o) → Q (.ref s.heap.objs.size) { s with heap := h', toks := tk }) :
    wpAny (model P w) A (call (.type "set") [.ref l]) Q E s := by
  have hisz : items.size = ns.length := by
    have q := IntsAre.length hit
    rw [Array.length_toList] at q
    exact q
  obtain ⟨c, tl, hmro⟩ := F.called_set.mro
  have hmade := F.called_set.made
  have hsub := F.called_set.sub
  refine wpAny_call (codeAny_of_tree ?_)
  show wpAny _ _ (callAny (.type "set") _) _ _ _
  refine wpAny_pure ⟨Code.quiet_builtin _ (by decide +kernel), codeAny_builtin F.entry_type_call ?_⟩
  rw [Around.under_plain (weight_type_call_type "set" [.ref l] []) rfl]
  have h1 := F.called_set.notType
  have h2 := F.called_set.canCreate
  have hct := F.typeCall_set_1 (.ref l)
  repeat (any_goals (first | assumption | wp_step))

  refine codeAny_mono (code_set_led1 (.ref l) (E := E) (Q₁ := fun obj s₁ => obj = .ref s.heap.objs.size ∧ s₁ = { s with heap := s.heap.push { cls := .type "set", dict := none, data := .set #[] 0 (.fresh 0 0 (!w.params.followText "set-order")) } }) ⟨rfl, rfl⟩) fun r s₁ hr => ?_
  cases r with
  | error e => exact hr
  | ok fl =>
    cases fl with
    | ret obj =>
      obtain ⟨rfl, rfl⟩ := hr
      have hS : (s.heap.push { cls := .type "set", dict := none, data := .set #[] 0 (.fresh 0 0 (!w.params.followText "set-order")) }).get? s.heap.objs.size = some { cls := .type "set", dict := none, data := .set #[] 0 (.fresh 0 0 (!w.params.followText "set-order")) } := Heap.get?_push_size _ rfl
      have hT : Shared.TypeIs { s with heap := s.heap.push { cls := .type "set", dict := none, data := .set #[] 0 (.fresh 0 0 (!w.params.followText "set-order")) } } (.ref s.heap.objs.size) "set" := ⟨_, hS, rfl⟩
      have hli := F.called_set.init.lookup
      have hbi := F.called_set.init.bind (.ref s.heap.objs.size)
      repeat (any_goals (first | assumption | wp_step))

      refine codeAny_mono (codeAny_call_builtin (R := wants (fun r s₂ => r = .none ∧ ∃ h' tk c, s₂ = { s with heap := h', toks := tk } ∧ SetR w h' s.heap.objs.size (fun j => decide (j ∈ ns)) c ∧ c ≤ ns.length ∧
          (∀ b o, s.heap.get? b = some o → h'.get? b = some o)) E) F.called_set.init.plain F.entry_set_init (check_set_init_1 hT ?_)) fun r₂ s₂ hr₂ => ?_
      · obtain ⟨ol, hol, hcl, nl, hdl⟩ := hl
        obtain ⟨ocls, odict, odata, oslots⟩ := ol
        simp only at hcl hdl
        subst hcl; subst hdl
        have hol' : (s.heap.push { cls := .type "set", dict := none, data := .set #[] 0 (.fresh 0 0 (!w.params.followText "set-order")) }).get? l = some { cls := .type "list", dict := odict, data := .seq items nl, slots := oslots } := Heap.get?_push_of_some _ hol
        have hsls := F.sub_list_set
        have hslf := F.sub_list_frozenset
        have hne : (Value.type "list" == Value.type "dict") = false := by decide
        have hl1 : (s.heap.push { cls := .type "set", dict := none, data := .set #[] 0 (.fresh 0 0 (!w.params.followText "set-order")) }).IsList l items := ⟨_, hol', rfl, nl, rfl⟩
        unfold Builtin.«set.__init__» noKeywords Builtin.Frozenset.updateFrom
        generalize hPI : pyIter = PI
        wp_walk
        subst hPI

        refine wpAny_pyIter_list hl1 ?_
        refine wpAny_bind (wpAny_runValue ?_)
        have hlS : l < s.heap.objs.size := Heap.lt_size hol
        have hh3 : A.in1.in1.in1.handled = none := by simp [hh]
        have hz1 : (s.heap.push { cls := .type "set", dict := none, data := .set #[] 0 (.fresh 0 0 (!w.params.followText "set-order")) }).objs.size = s.heap.objs.size + 1 := Heap.size_push ..
        have hneI : l ≠ (s.heap.push { cls := .type "set", dict := none, data := .set #[] 0 (.fresh 0 0 (!w.params.followText "set-order")) }).objs.size := by
          rw [Heap.size_push]; exact Nat.ne_of_lt (Nat.lt_succ_of_lt hlS)
        have hSf : s.heap.objs.size ∉ [(s.heap.push { cls := .type "set", dict := none, data := .set #[] 0 (.fresh 0 0 (!w.params.followText "set-order")) }).objs.size, l] := by
          rw [Heap.size_push]; simp only [List.mem_cons, List.mem_singleton, List.not_mem_nil, or_false, not_or]
          exact ⟨Nat.ne_of_lt (Nat.lt_succ_self _), Nat.ne_of_gt hlS⟩
        have hval : ∀ (i : Nat) (v : Value), items[i]? = some v → ∃ k t, ns[i]? = some k ∧ v = .int k t := fun i v hv => by
          have hi : i < ns.length := by rw [← hisz]; exact (Array.getElem?_eq_some_iff.mp hv).1
          obtain ⟨t, e⟩ := PyProof.Rows.IntsAre.int_at hit i v (by rw [Array.getElem?_toList]; exact hv)
          refine ⟨ns[i], t, List.getElem?_eq_getElem hi, ?_⟩
          rw [e, List.getD_eq_getElem?_getD, List.getElem?_eq_getElem hi] <;> rfl
        refine set_update_ints ((Walks.list hh3 _ l hneI items).toS) s.heap.objs.size
          hSf ns hisz hb hval (items.size - 0) 0 _ (by omega) (Nat.zero_le _)
          ⟨⟨_, Heap.get?_push_size _ rfl, rfl, rfl⟩, (hl1.push _)⟩ ?hS0 ?hR
        case hS0 =>
          have hget : ((s.heap.push { cls := .type "set", dict := none, data := .set #[] 0 (.fresh 0 0 (!w.params.followText "set-order")) }).push { cls := .type "list_iterator", data := .fields #[.ref l, .int 0 0] }).get? s.heap.objs.size
              = some { cls := .type "set", dict := none, data := .set #[] 0 (.fresh 0 0 (!w.params.followText "set-order")) } := Heap.get?_push_of_some _ hS
          exact ⟨0, Nat.le_refl 0, setR_new_at hget⟩
        case hR =>
          intro s' c' hm hc' hS'
          obtain ⟨h', g2, d', tk', os'⟩ := s'
          have eg : g2 = s.gens := hm.gens
          have ed : d' = s.drawn := hm.drawn
          have eo : os' = s.os := hm.os
          subst eg; subst ed; subst eo
          show wpAny _ _ _ _ _ _
          refine wpAny_pure ?_
          show wpAny _ _ (ret Value.none) _ _ _
          rw [hisz] at hc'
          refine wpAny_pure ⟨rfl, h', tk', c', rfl, hS', hc', fun b o e => ?_⟩
          have hb0 : b < s.heap.objs.size := Heap.lt_size e
          have hb1 : b ≠ s.heap.objs.size := Nat.ne_of_lt hb0
          have hb2 : b ≠ (s.heap.push { cls := .type "set", dict := none, data := .set #[] 0 (.fresh 0 0 (!w.params.followText "set-order")) }).objs.size := by
            rw [Heap.size_push]; exact Nat.ne_of_lt (Nat.lt_succ_of_lt hb0)
          exact hm.heap b o (by simp only [List.mem_cons, List.mem_singleton, List.not_mem_nil, or_false, not_or]; exact ⟨hb1, hb2⟩) (Heap.get?_push_of_some _ (Heap.get?_push_of_some _ e))

      · cases r₂ with
        | error e => exact hr₂
        | ok fl₂ =>
          cases fl₂ with
          | ret r =>
            obtain ⟨rfl, h', tk, c', rfl, hS', hc', hk'⟩ := hr₂
            repeat (any_goals (first | assumption | wp_step))
            exact h _ _ _ hS' hc' hk'
          | _ => exact hr₂.elim
    | _ => exact hr.elim

end
def rSetL (K : PySem.W.Frag) (w : World) : List V → Hp → VK → Prop := fun vs H Q => ∃ (a : Addr) (ns : List Int), vs = [V.ref a] ∧ SqL K H a (ns.map V.int) ∧ ns.length + 1 < scanBound ∧ ∀ p c, c ≤ ns.length → H p = none → Q (.ref p) (upd H p (SetO w p (fun j => decide (j ∈ ns)) c))
theorem cr_setL {X : Cx} (hc : X.calm = true) : CallR X (.type "set") (rSetL X.K X.w) := by
  intro pins s σ H vs us Q I r h
  obtain ⟨a, ns, rfl, hs, hb, q⟩ := h
  obtain ⟨its, rv, hl, hz⟩ := I.list hs
  rw [Vals.ref1 r]
  refine set_of_list ns (I.ok.hd hc) hl.isList rv.ints hb fun h' tk c R hcl kp => ?_
  have hf := I.hok.fresh (Nat.le_refl _)
  exact ⟨.ref _, upd H s.heap.objs.size (SetO X.w s.heap.objs.size (fun j => decide (j ∈ ns)) c), I.laid (t' := tk) kp (Nat.le_refl _) (setO_new R), rfl, q _ c hcl hf⟩
/-- the members of a list, each once, rising -/
def uins (x : Int) : List Int → List Int
  | [] => [x]
  | y :: ys => if x < y then x :: y :: ys else if x = y then y :: ys else y :: uins x ys
def usort : List Int → List Int
  | [] => []
  | x :: xs => uins x (usort xs)
theorem mem_uins {x z : Int} : ∀ {ys : List Int}, z ∈ uins x ys ↔ z = x ∨ z ∈ ys
  | [] => by simp [uins]
  | y :: ys => by
    unfold uins
    by_cases h : x < y
    · rw [if_pos h]; simp
    · rw [if_neg h]
      by_cases h2 : x = y
      · rw [if_pos h2]; simp [h2]
      · rw [if_neg h2, List.mem_cons, mem_uins, List.mem_cons]
        constructor
        · rintro (h | h | h)
          · exact .inr (.inl h)
          · exact .inl h
          · exact .inr (.inr h)
        · rintro (h | h | h)
          · exact .inr (.inl h)
          · exact .inl h
          · exact .inr (.inr h)
theorem mem_usort {z : Int} : ∀ {xs : List Int}, z ∈ usort xs ↔ z ∈ xs
  | [] => by simp [usort]
  | x :: xs => by rw [usort, mem_uins, mem_usort, List.mem_cons]
theorem uins_rising {x : Int} : ∀ {ys : List Int}, ys.Pairwise (· < ·) → (uins x ys).Pairwise (· < ·)
  | [], _ => by simp [uins]
  | y :: ys, h => by
    obtain ⟨h1, h2⟩ := List.pairwise_cons.mp h
    unfold uins
    by_cases hxy : x < y
    · rw [if_pos hxy]
      refine List.pairwise_cons.mpr ⟨fun z hz => ?_, h⟩
      rcases List.mem_cons.mp hz with rfl | hz
      · exact hxy
      · have := h1 z hz; omega
    · rw [if_neg hxy]
      by_cases h3 : x = y
      · rw [if_pos h3]; exact h
      · rw [if_neg h3]
        refine List.pairwise_cons.mpr ⟨fun z hz => ?_, uins_rising h2⟩
        rcases mem_uins.mp hz with rfl | hz
        · omega
        · exact h1 z hz
theorem usort_rising : ∀ xs : List Int, (usort xs).Pairwise (· < ·)
  | [] => List.Pairwise.nil
  | x :: xs => uins_rising (usort_rising xs)
theorem rising_uniq : ∀ {l m : List Int}, l.Pairwise (· < ·) → m.Pairwise (· < ·) → (∀ z, z ∈ l ↔ z ∈ m) → l = m
  | [], [], _, _, _ => rfl
  | [], y :: m, _, _, h => absurd ((h y).mpr List.mem_cons_self) (by simp)
  | x :: l, [], _, _, h => absurd ((h x).mp List.mem_cons_self) (by simp)
  | x :: l, y :: m, hl, hm, h => by
    obtain ⟨a1, a2⟩ := List.pairwise_cons.mp hl
    obtain ⟨b1, b2⟩ := List.pairwise_cons.mp hm
    have e : x = y := by
      have q1 := (h x).mp List.mem_cons_self
      have q2 := (h y).mpr List.mem_cons_self
      rcases List.mem_cons.mp q1 with q1 | q1
      · exact q1
      · rcases List.mem_cons.mp q2 with q2 | q2
        · exact q2.symm
        · have := a1 y q2
          have := b1 x q1
          omega
    subst e
    rw [rising_uniq a2 b2 fun z => ?_]
    constructor
    · intro hz
      rcases List.mem_cons.mp ((h z).mp (List.mem_cons_of_mem _ hz)) with q | q
      · have := a1 z hz; omega
      · exact q
    · intro hz
      rcases List.mem_cons.mp ((h z).mpr (List.mem_cons_of_mem _ hz)) with q | q
      · have := b1 z hz; omega
      · exact q
theorem usort_len_le : ∀ {xs : List Int}, (usort xs).length ≤ xs.length
  | [] => Nat.le_refl _
  | x :: xs => by
    have ui : ∀ ys : List Int, (uins x ys).length ≤ ys.length + 1 := fun ys => by
      induction ys with
      | nil => simp [uins]
      | cons y ys ih =>
        unfold uins
        split
        · simp
        · split
          · simp
          · simp only [List.length_cons]; omega
    have := ui (usort xs)
    have := usort_len_le (xs := xs)
    simp only [usort, List.length_cons]
    omega
/-- set(xs) has no name of its own here: it is sorted at once -/
def tSrtSet (K : PySem.W.Frag) (w : World) (ta : TA) : TE := tCB (rSortedSet w) (tCons (tCB (rSetL K w) ta) tNil)
def fSrtSet : List D → Option T
  | [.lst ds] => (D.ints ds).bind fun ns => if ns.length < 64 then some (.l ((usort ns).map fun i => .p (.int i))) else none
  | _ => none
section
variable {K : PySem.W.Frag} {cl : Cl} {E : L2.St → XK} {ι : Type} {X : ι → Cx} {a b : Expr} {pos pos' : Pos}
theorem je_srtset {p p2 : Pos} {ms : Env → RL} {w : World} (hw : ∀ ξ, (X ξ).w = w) (hc : ∀ ξ, (X ξ).calm = true) (hg : ∀ ξ, Gl (X ξ) "sorted") (hm : ∀ ξ, (X ξ).mg "sorted" = none) (hg2 : ∀ ξ, Gl (X ξ) "set") (hm2 : ∀ ξ, (X ξ).mg "set" = none) (ha : JA K cl E X [a] ms)
    (he : ∀ ξ, starEach [a] (X ξ).env = (false, eval a (X ξ).env) :: starEach [] (X ξ).env := by intro _; rfl)
    (he2 : ∀ ξ, starEach [.Call (.Name "set" p2) [a] [] pos'] (X ξ).env = (false, eval (.Call (.Name "set" p2) [a] [] pos') (X ξ).env) :: starEach [] (X ξ).env := by intro _; rfl) :
    JE K cl E X (.Call (.Name "sorted" p) [.Call (.Name "set" p2) [a] [] pos'] [] pos) (mCB fSrtSet ms) := by
  obtain ⟨hK, t, pa, s⟩ := ha
  refine ⟨hK, tSrtSet K w t, fun ξ => ?_, fun σ H e A1 st Q k => ?_⟩
  · rw [← hK ξ, ← hw ξ]
    exact pe_callB (cr_sortedSet (hc ξ)) (hg ξ) (hm ξ) boot_sorted (pa_cons (pe_callTy (cr_setL (hc ξ)) (hg2 ξ) (hm2 ξ) (by decide +kernel) (pa ξ) (by decide) (by decide) (he ξ) rfl) pa_nil (he2 ξ)) (by decide) (by decide) (he2 ξ) rfl
  · show t σ H _
    refine s σ H e A1 st _ ?_
    unfold mCB at k
    cases q : ms e with
    | bad => rw [q] at k; exact k
    | exc x => rw [q] at k; exact k
    | ok ds =>
      rw [q] at k
      simp only at k
      intro vs H1 u r
      cases q2 : fSrtSet ds with
      | none => rw [q2] at k; exact k.elim
      | some t' =>
        rw [q2] at k
        unfold fSrtSet at q2
        split at q2
        · obtain ⟨ns, e1, e2⟩ := Option.bind_eq_some_iff.mp q2
          split at e2
          · rename_i hlt
            cases e2
            obtain ⟨v1, rfl, h1⟩ := r.one
            obtain ⟨a', rfl, hq⟩ := rp_ints h1 e1
            refine ⟨a', ns, rfl, hq, Nat.lt_of_lt_of_le (Nat.succ_lt_succ hlt) (by decide), fun pp c hcl hp => ?_⟩
            have s1 : Same H1 (upd H1 pp (SetO w pp (fun j => decide (j ∈ ns)) c)) := same_upd hp
            refine ⟨pp, _, c, rfl, upd_same, Nat.lt_of_le_of_lt hcl hlt, fun ms' q hr hm _ hq' => ?_⟩
            have em : ms' = usort ns := rising_uniq hr (usort_rising ns) fun z => by
              rw [hm z, mem_usort]
              exact decide_eq_true_iff
            subst em
            have k' : OkP K cl H A1 Q (.l (((usort ns).map D.int).map T.p)) := by
              rw [List.map_map]
              exact k
            exact OkP.newLp k' (u.trans s1) hq' rpA_ints
          · cases e2
        · cases q2
end
end Nd

namespace Nd
open PySem PySem.Spec PyProof.Rows L2

/-- a def of the module, by its name: it keeps to its mirror -/
structure Dn (P : Program) (w : World) (K : PySem.W.Frag) (mg : Str → Option Value) (base : Heap) (cl : Cl) (k : Nat) (x : Str) (n : Nat) (M : List D → RE) : Prop where
  ex : ∃ (f : Addr) (fd : FuncData) (ps : List Str), FnG P w K mg base (L2.CX P w) k f fd ps (spM K cl n M) ∧ mg x = some (.ref f) ∧ PySem.W.keepIn K (.ref f) = true ∧ Binds K fd ps []
section
variable {K : PySem.W.Frag} {cl : Cl} {E : L2.St → XK} {ι : Type} {X : ι → Cx} {a b : Expr} {ma mb : ME} {pos pos' apos : Pos} {es : List Expr}
theorem je_dn {k n : Nat} {x : Str} {p : Pos} {M : List D → RE} {ms : Env → RL} (D : ∀ ξ, Dn (X ξ).prog (X ξ).w (X ξ).K (X ξ).mg (X ξ).base cl k x n M)
    (hr : ∀ ξ, RoomG k (X ξ).A) (hg : ∀ ξ, Gl (X ξ) x) (hx : ∀ ξ σ, PassesAt (L2.CX (X ξ).prog (X ξ).w) (X ξ) σ (E σ))
    (ha : JA K cl E X (a :: es) ms) (he : ∀ ξ, starEach (a :: es) (X ξ).env = (false, eval a (X ξ).env) :: starEach es (X ξ).env := by intro _; rfl) (hpl : ∀ ξ, (backTo pos (starEach es (X ξ).env)).any (·.1) = false := by intro _; rfl)
    (hdb : (x == ("__debug__" : Str)) = false := by decide) : JE K cl E X (.Call (.Name x p) (a :: es) [] pos) (mCall n M ms) := by
  obtain ⟨hK, t, pa, s⟩ := ha
  refine ⟨hK, tCallS (spM K cl n M) E t, fun ξ => ?_, fun σ H e A1 st Q k => ?_⟩
  · obtain ⟨f, fd, ps, F, hm, hk, hb⟩ := (D ξ).ex
    rw [← hK ξ]
    exact pe_callG F (hr ξ) (hg ξ) hm hk hb (hx ξ) (pa ξ) hdb (he ξ) (hpl ξ)
  · refine s σ H e A1 st _ ?_
    unfold mCall at k
    cases q : ms e with
    | bad => rw [q] at k; exact k
    | exc x => rw [q] at k; exact k
    | ok ds =>
      rw [q] at k
      simp only at k
      intro vs H1 u r
      by_cases hl : ds.length = n
      · rw [if_pos hl] at k
        exact ⟨ds, A1, hl, r, fun a ha => (st.1 a ha).same u, k.up u⟩
      · rw [if_neg hl] at k; exact k.elim
theorem sem_addI : OpSem K cl (rI0 fun i j => .int (i + j)) (fun x y => match x, y with | .int i, .int j => some (.p (.int (i + j))) | _, _ => none) := by
  intro H A o x y dx dy t rx ry e Q k
  cases rx with
  | int i =>
    cases ry with
    | int j => cases e; exact ⟨i, j, rfl, rfl, OkP.pure k (Same.refl _) (.int _)⟩
    | _ => cases e
  | _ => cases e
def dAddI : D → D → Option T := fun x y => match x, y with | .int i, .int j => some (.p (.int (i + j))) | _, _ => none
end
/-- from a def's body to its callers -/
theorem psD {P : Program} {w : World} {K : PySem.W.Frag} {mg : Str → Option Value} {base : Heap} {N : List Str} {qual : Str} {sc : Scope} {f : Addr} {cdv : Value} {A : Around} {outer : List PySem.Env} {s : Shared} {H : Hp} {E : XK} (σ : L2.St) :
    PassesAt (L2.CX P w) (cxOf (L2.CX P w) P w K mg base N qual sc f cdv A outer s H E) σ E := fun pins H s e s' I h => passes_call (takes_of rfl rfl rfl rfl) (fun _ _ _ _ h => h) pins σ H s e s' I h
/-- nothing leaves a comprehension's block -/
theorem psB {X : Cx} (σ : L2.St) : PassesAt (L2.CX X.prog X.w) X σ (noE σ) := fun _ _ _ _ _ _ h => by
  obtain ⟨_, _, _, _, _, _, _, _, _, _, _, _, z⟩ := h
  exact z.elim
section
variable {P : Program} {w : World} {K : PySem.W.Frag} {mg : Str → Option Value} {base : Heap} {cl : Cl}
theorem Dn.mk' {x qual : Str} {st : Stmt} {f : Addr} {fd : FuncData} {ps : List Str} {k n : Nat} {M : List D → RE} (F : Fun K x qual st f fd) (b : Binds K fd ps []) (m : mg x = some (.ref f)) (h : FnG P w K mg base (L2.CX P w) k f fd ps (spM K cl n M)) : Dn P w K mg base cl k x n M :=
  ⟨f, fd, ps, h, m, F.kp, b⟩
end
theorem noCX (P : Program) (w : World) (H : Hp) (s : Shared) (e : Value) (s' : Shared) (h : L2.CX P w [] H s (fun _ _ _ => False) e s') : False := by
  obtain ⟨_, _, _, _, _, _, _, _, _, _, _, _, z⟩ := h
  exact z.elim
/-- the law's own promise -/
def spLaw (K : PySem.W.Frag) : Sp := fun vs H Q _ => ∃ (a : Addr) (ns : List Int), vs = [.ref a] ∧ SqL K H a (ns.map V.int) ∧ ns.length ≤ 63 ∧ ∀ H', Q (.bl true) H'
theorem spLaw_of {K : PySem.W.Frag} {cl : Cl} {M : List D → RE} (hM : ∀ ns : List Int, ns.length ≤ 63 → M [.lst (ns.map D.int)] = .ok (.p (.bl true))) : ∀ vs H Q E, spLaw K vs H Q E → spM K cl 1 M vs H Q E := by
  rintro vs H Q E ⟨a, ns, rfl, hs, hl, q⟩
  refine ⟨[.lst (ns.map D.int)], [], rfl, ?_, fun a ha => by simp at ha, ?_⟩
  · rw [hd_nil]
    exact .cons (.lst hs rpA_ints) .nil
  · rw [hM ns hl]
    intro v H2 F s f nd r
    cases r with
    | p r =>
      cases r
      exact q H2
section
variable {K : PySem.W.Frag} {cl : Cl} {E : L2.St → XK} {ι : Type} {X : ι → Cx} {a b : Expr} {ma mb : ME} {pos pos' apos : Pos} {es : List Expr} {tg : Expr}
/-- x = e, e's value being data from then on -/
def mAsgF (i : Nat) (m : ME) : MS := fun e => match m e with
  | .ok t => if i < e.length then .nx (e.set i (some (.p t.toD))) else .bad
  | .exc x => .exc x e
  | .bad => .bad
theorem ss_asgF {te : TE} {i : Nat} (s : SE K cl E te ma) : SS K cl E (tAsg te (gName i)) (mAsgF i ma) := fun c σ H e hs D k => by
  obtain ⟨A, h⟩ := hs
  refine s.d h.ste ?_
  unfold mAsgF at k
  cases q : ma e with
  | bad => rw [q] at k; exact k
  | exc x => rw [q] at k; exact fun cv d H2 s2 r => k σ H2 cv d ⟨A, h.up s2⟩ r
  | ok t =>
    rw [q] at k
    simp only at k
    by_cases hi : i < e.length
    · rw [if_pos hi] at k
      exact fun v H2 s2 r => k _ _ (h.set s2 (F := []) (fun b hb => by simp at hb) List.nodup_nil (.p (by rw [List.append_nil]; exact r)) hi)
    · rw [if_neg hi] at k; exact k.elim
theorem js_setF {i : Nat} {x : Str} (hN : ∀ ξ, (X ξ).N.Nodup) (h : JE K cl E X a ma) (hi : ∀ ξ, (X ξ).N[i]? = some x := by intro _; rfl) (hx : ∀ ξ, Loc (X ξ).env.scope x := by intro _; first | exact Or.inl rfl | exact Or.inr rfl) (hs : ∀ ξ, swapsWith a (some (.Name x pos')) pos.line (X ξ).env = pure false := by intro _; rfl)
    (hf : ∀ ξ, (X ξ).fn x = true ∨ (X ξ).env.scope.names.lookup x = some .local := by intro _; first | exact .inl rfl | exact .inr rfl) : JS K cl E X (.Assign [.Name x pos'] a pos) (mAsgF i ma) := by
  obtain ⟨hK, t, p, s⟩ := h
  exact ⟨hK, _, fun ξ => ps_set (hN ξ) (hi ξ) (hx ξ) (p ξ) (hs ξ) (hf ξ), ss_asgF s⟩
theorem js_lcF {elt iter : Expr} {ifs : List Expr} {scope : Scope} (own : List (Str × Nat)) {j : Nat} {y : Str} {py : Pos} {vs : List Nat} {mi : Env → RL} {mt : D → Env → Option Env} {ns : List Nat} {mtt : MB} {me : ME} (hc : ∀ ξ, (X ξ).calm = true) (hN : ∀ ξ, (X ξ).N.Nodup) (hi : JI K cl E X tg iter mi) (ok : ∀ ξ, BlkOk (X ξ).N (X ξ).env.scope scope own)
    (hg : JG K cl (blkF X scope) tg mt ns) (ht : JTs K cl (blkF X scope) ifs mtt) (he : JE K cl noE (blkF X scope) elt me) (hn : ∀ n ∈ ns, n ∈ own.map (·.2)) (hvs : own.map (·.2) = vs) (hsw : ∀ ξ, swapsWith (.ListComp elt [⟨tg, iter, ifs, 0⟩] scope pos') (some (.Name y py)) pos.line (X ξ).env = pure true)
    (hy : ∀ ξ, (X ξ).N[j]? = some y := by intro _; rfl) (hyl : ∀ ξ, (X ξ).env.scope.names.lookup y = some .local := by intro _; rfl) (hs : ∀ ξ, ∀ x, foldedSetIterable iter (X ξ).env x = pure x := by intro _ _; rfl) :
    JS K cl E X (.Assign [.Name y py] (.ListComp elt [⟨tg, iter, ifs, 0⟩] scope pos') pos) (mAsgF j (mLc vs mi mt mtt me)) := by
  subst hvs
  obtain ⟨hK, t, p, s⟩ := hi
  obtain ⟨_, g, pg, sg⟩ := hg
  obtain ⟨_, tt, pt, st⟩ := ht
  obtain ⟨_, te, pe, se⟩ := he
  exact ⟨hK, _, fun ξ => ps_setLc (hc ξ) (hN ξ) (hy ξ) (hyl ξ) (hsw ξ) (p ξ) (ok ξ) (fun s H C cc fp => pg (ξ, s, H, C, cc, fp)) (fun s H C cc fp => pt (ξ, s, H, C, cc, fp)) (fun s H C cc fp => pe (ξ, s, H, C, cc, fp)) (hs ξ), ss_asgF (se_lc s sg st se hn)⟩
end
end Nd

namespace Nd
open PySem PySem.Spec PyProof.Rows L2
section
variable {K : PySem.W.Frag} {cl : Cl} {E : L2.St → XK} {ι : Type} {X : ι → Cx} {a b : Expr} {ma mb mk : ME} {pos pos' apos cpos : Pos} {es : List Expr}
/-- where nothing but the cells of one tree is changed -/
theorem sub_of {c : Cn} {A A1 A2 F F2 : List Addr} (hA : A = A1 ++ F ++ A2) (hs : ∀ x ∈ F2, x ∈ F) : ∀ x, x ∈ c.B ++ (A1 ++ F2 ++ A2) → x ∈ c.B ++ A := fun x hx => by
  subst hA
  rcases List.mem_append.mp hx with z | z
  · exact List.mem_append_left _ z
  · refine List.mem_append_right _ ?_
    rcases List.mem_append.mp z with z | z
    · rcases List.mem_append.mp z with z | z
      · exact List.mem_append_left _ (List.mem_append_left _ z)
      · exact List.mem_append_left _ (List.mem_append_right _ (hs x z))
    · exact List.mem_append_right _ z
/-- x[k] = e, x owned, e's value being data from then on -/
def mSet (i : Nat) (mk mv : ME) : MS := fun e => match e[i]? with
  | some (some (.l ts)) => (match mv e with
    | .ok t => (match mk e with
      | .ok (.p (.int j)) => (match ixN ts.length j with
        | some m => .nx (e.set i (some (.l (ts.set m (.p t.toD)))))
        | none => .bad)
      | .exc x => .exc x e
      | _ => .bad)
    | .exc x => .exc x e
    | .bad => .bad)
  | _ => .bad
theorem ss_set {te tk : TE} {mv : ME} {i : Nat} (s : SE K cl E te mv) (sk : SE K cl E tk mk) : SS K cl E (tAsg te (gSub (tVar i) tk L2.rSetL)) (mSet i mk mv) := fun c σ H e hs D k => by
  obtain ⟨A, h⟩ := hs
  unfold mSet at k
  cases q1 : e[i]? with
  | none => rw [q1] at k; exact k.elim
  | some o =>
    cases o with
    | none => rw [q1] at k; exact k.elim
    | some t0 =>
      rw [q1] at k
      cases t0 with
      | p d => exact k.elim
      | k ks ts => exact k.elim
      | i C ks ts tg => exact k.elim
      | l ts =>
        simp only at k
        refine s.d h.ste ?_
        cases q : mv e with
        | bad => rw [q] at k; exact k
        | exc x => rw [q] at k; exact fun cv d H2 s2 r => k σ H2 cv d ⟨A, h.up s2⟩ r
        | ok t =>
          rw [q] at k
          simp only at k
          intro v H2 s2 r
          have h2 := h.up s2
          obtain ⟨v0, F, A1, A2, g1, g2, g3, g4⟩ := h2.2.2.2.2.at h2.1 q1
          refine ⟨v0, g1, ?_⟩
          refine sk.int h2.ste (fun j H3 qj s3 => ?_) (fun x qx => ?_) (fun n1 n2 => ?_)
          · rw [qj] at k
            simp only at k
            have h3 := h2.up s3
            obtain ⟨v1, F1, B1, B2, p1, p2, p3, p4⟩ := h3.2.2.2.2.at h3.1 q1
            rw [g1] at p1
            cases p1
            cases p3 with
            | l h5 h6 =>
              rename_i a xs F0
              cases qm : ixN ts.length j with
              | none => rw [qm] at k; exact k.elim
              | some m =>
                rw [qm] at k
                simp only at k
                have nd0 : (B1 ++ (a :: F0) ++ B2).Nodup := p2 ▸ h3.1
                have ndF : (a :: F0).Nodup := (List.nodup_append.mp (List.nodup_append.mp nd0).1).2.1
                have na : a ∉ F0 := (List.nodup_cons.mp ndF).1
                have nd1 := (List.nodup_cons.mp ndF).2
                have hm : m < ts.length := by
                  unfold ixN at qm
                  split at qm
                  · split at qm
                    · cases qm; omega
                    · cases qm
                  · split at qm
                    · cases qm; omega
                    · cases qm
                obtain ⟨w, F3, G1, G2, r1, r2, r3, r4⟩ := h6.at nd1 (i := m) (t := ts[m]) (List.getElem?_eq_getElem hm)
                have sF : ∀ x ∈ a :: (G1 ++ [] ++ G2), x ∈ a :: F0 := fun x hx => by
                  rcases List.mem_cons.mp hx with rfl | hx
                  · exact List.mem_cons_self
                  · refine List.mem_cons_of_mem _ ?_
                    rw [r2]
                    rw [List.append_nil] at hx
                    rcases List.mem_append.mp hx with z | z
                    · exact List.mem_append_left _ (List.mem_append_left _ z)
                    · exact List.mem_append_right _ z
                have ndn : (a :: (G1 ++ [] ++ G2)).Nodup := by
                  rw [List.append_nil]
                  refine List.nodup_cons.mpr ⟨fun z => na (by
                    rw [r2]
                    rcases List.mem_append.mp z with z | z
                    · exact List.mem_append_left _ (List.mem_append_left _ z)
                    · exact List.mem_append_right _ z), ?_⟩
                  have z := r2 ▸ nd1
                  have z1 := List.nodup_append.mp z
                  have z2 := List.nodup_append.mp z1.1
                  exact List.nodup_append.mpr ⟨z2.1, z1.2.1, fun x hx y hy => z1.2.2 x (List.mem_append_left _ hx) y hy⟩
                have inA : ∀ b ∈ a :: F0, b ∈ A := fun b hb => by rw [p2]; exact List.mem_append_left _ (List.mem_append_right _ hb)
                have mA : a ∈ c.B ++ (B1 ++ (a :: (G1 ++ [] ++ G2)) ++ B2) := List.mem_append_right _ (List.mem_append_left _ (List.mem_append_right _ List.mem_cons_self))
                have s4 : Same (hd H3 (c.B ++ A)) (hd (upd H3 a (.lst (xs.set m v))) (c.B ++ (B1 ++ (a :: (G1 ++ [] ++ G2)) ++ B2))) := by
                  rw [hd_upd mA]
                  exact hd_same (Same.refl _) fun b hb => .inl (sub_of p2 sF b hb)
                have rv : Rp K cl (hd (upd H3 a (.lst (xs.set m v))) (c.B ++ (B1 ++ (a :: (G1 ++ [] ++ G2)) ++ B2))) v t.toD := (r.mono (hd_same s3 fun x hx => .inl hx)).mono s4
                refine ⟨a, xs, j, m, rfl, rfl, h5, by rw [h6.length]; exact qm, k σ _ ?_⟩
                refine SRA.change h3 p2 p4 (fun b hb hn => upd_ne fun z => hb (z ▸ List.mem_cons_self)) ndn (fun b hb => .inl (sF b hb)) (.l upd_same (r4 _ _ v _ [] s4 (fun b _ hb => upd_ne fun z => na (z ▸ hb)) (.p rv))) (fun b hb => h3.2.1 b (inA b hb))
          · rw [qx] at k
            exact fun cv d H3 s3 r3 => k σ H3 cv d ⟨A, h2.up s3⟩ r3
          · cases q2 : mk e with
            | bad => rw [q2] at k; exact k
            | exc x => exact n2 x q2
            | ok t2 =>
              rw [q2] at k
              cases t2 with
              | l ts => exact k
              | k ks ts => exact k
              | i C ks ts tg => exact k
              | p d =>
                cases d with
                | int j => exact n1 j q2
                | _ => exact k
theorem js_seti {value ix : Expr} {mv : ME} (i : Nat) {x : Str} (hv : ∀ ξ, PE (X ξ) (.Name x pos') (tVar i)) (hk : JE K cl E X ix mk) (h : JE K cl E X value mv)
    (ha : ∀ ξ, ∀ v, assign (.Subscript (.Name x pos') ix apos) (X ξ).env v = (do
      let ov ← holding [v] (eval (.Name x pos') (X ξ).env)
      let iv ← holding [v, ov] (eval ix (X ξ).env)
      standAt apos
      holding [v, ov, iv] (setItem ov iv v)
      release [v, ov, iv] []) := by intro _ _; rfl)
    (hs : ∀ ξ, swapsWithSole [.Subscript (.Name x pos') ix apos] value pos.line (X ξ).env = pure false := by intro _; rfl) (hw : ∀ ξ, swappedStores [.Subscript (.Name x pos') ix apos] value (X ξ).env = pure none := by intro _; rfl)
    (h1 : ∀ ξ, (assignEach [.Subscript (.Name x pos') ix apos] (X ξ).env).map (·.2) = [assign (.Subscript (.Name x pos') ix apos) (X ξ).env] := by intro _; rfl) :
    JS K cl E X (.Assign [.Subscript (.Name x pos') ix apos] value pos) (mSet i mk mv) := by
  obtain ⟨hK, t, p, s⟩ := h
  obtain ⟨_, t2, p2, s2⟩ := hk
  exact ⟨hK, _, fun ξ => ps_asg (p ξ) (pg_sub (hv ξ) (p2 ξ) set_list (ha ξ)) (hs ξ) (hw ξ) (h1 ξ), ss_set s s2⟩

/-- x[k].append(e), x and x[k] owned -/
def mApp1 (i : Nat) (mk m : ME) : MS := fun e => match e[i]? with
  | some (some (.l ts)) => (match mk e with
    | .ok (.p (.int j)) => (match ixN ts.length j with
      | some n => (match ts[n]? with
        | some (.l us) => (match m e with
          | .ok t => if us.length < sizeLine then .nx (e.set i (some (.l (ts.set n (.l (us ++ [.p t.toD])))))) else .bad
          | .exc x => .exc x e
          | .bad => .bad)
        | _ => .bad)
      | none => .bad)
    | .exc x => .exc x e
    | _ => .bad)
  | _ => .bad
theorem set_same {α : Type} {xs : List α} {m : Nat} {x : α} (h : xs[m]? = some x) : xs.set m x = xs := by
  obtain ⟨hm, rfl⟩ := List.getElem?_eq_some_iff.mp h
  exact List.set_getElem_self hm
theorem ss_app1 {te tk : TE} {i : Nat} (sk : SE K cl E tk mk) (s : SE K cl E te ma) : SS K cl E (tDrop (tBM K "list" rAppend (tOp (rIx K) (tVar i) tk) (tCons te tNil))) (mApp1 i mk ma) := fun c σ H e hs D k => by
  obtain ⟨A, h⟩ := hs
  unfold mApp1 at k
  cases q1 : e[i]? with
  | none => rw [q1] at k; exact k.elim
  | some o =>
    cases o with
    | none => rw [q1] at k; exact k.elim
    | some t0 =>
      rw [q1] at k
      cases t0 with
      | p d => exact k.elim
      | k ks ts => exact k.elim
      | i C ks ts tg => exact k.elim
      | l ts =>
        simp only at k
        obtain ⟨v0, F, A1, A2, g1, g2, g3, g4⟩ := h.2.2.2.2.at h.1 q1
        refine ⟨v0, g1, ?_⟩
        refine sk.int h.ste (fun j H2 qj s2 => ?_) (fun x qx => ?_) (fun n1 n2 => ?_)
        · rw [qj] at k
          simp only at k
          have h2 := h.up s2
          obtain ⟨v1, F1, B1, B2, p1, p2, p3, p4⟩ := h2.2.2.2.2.at h2.1 q1
          rw [g1] at p1
          cases p1
          cases p3 with
          | l h5 h6 =>
            rename_i a xs F0
            cases qm : ixN ts.length j with
            | none => rw [qm] at k; exact k.elim
            | some n =>
              rw [qm] at k
              simp only at k
              cases qn : ts[n]? with
              | none => rw [qn] at k; exact k.elim
              | some t1 =>
                rw [qn] at k
                cases t1 with
                | p d => exact k.elim
                | k ks us => exact k.elim
                | i C ks us tg => exact k.elim
                | l us =>
                  simp only at k
                  have nd0 : (B1 ++ (a :: F0) ++ B2).Nodup := p2 ▸ h2.1
                  have ndF : (a :: F0).Nodup := (List.nodup_append.mp (List.nodup_append.mp nd0).1).2.1
                  have na : a ∉ F0 := (List.nodup_cons.mp ndF).1
                  have nd1 := (List.nodup_cons.mp ndF).2
                  obtain ⟨w, F3, G1, G2, r1, r2, r3, r4⟩ := h6.at nd1 qn
                  cases r3 with
                  | l r5 r6 =>
                    rename_i b ys Fb
                    have hix : L2.atI xs j = some (.ref b) := by
                      unfold L2.atI
                      rw [h6.length, qm]
                      exact r1
                    refine .inl ⟨a, xs, j, .ref b, rfl, rfl, SqL.of h5, hix, Or.inl ⟨rfl, _, SqL.of r5⟩, ?_⟩
                    refine s.d h2.ste ?_
                    cases q : ma e with
                    | bad => rw [q] at k; exact k
                    | exc x => rw [q] at k; exact fun cv d H3 s3 r => k σ H3 cv d ⟨A, h2.up s3⟩ r
                    | ok t =>
                      rw [q] at k
                      simp only at k
                      intro v H3 s3 r
                      by_cases hl : us.length < sizeLine
                      · rw [if_pos hl] at k
                        have h3 := h2.up s3
                        have bF : b ∈ F0 := by rw [r2]; exact List.mem_append_left _ (List.mem_append_right _ List.mem_cons_self)
                        have nab : a ≠ b := fun z => na (z ▸ bF)
                        have nd2 : (G1 ++ (b :: Fb) ++ G2).Nodup := r2 ▸ nd1
                        have nb : b ∉ Fb := (List.nodup_cons.mp (List.nodup_append.mp (List.nodup_append.mp nd2).1).2.1).1
                        have inA : ∀ x ∈ a :: F0, x ∈ A := fun x hx => by rw [p2]; exact List.mem_append_left _ (List.mem_append_right _ hx)
                        have sF : ∀ x ∈ a :: (G1 ++ (b :: (Fb ++ [])) ++ G2), x ∈ a :: F0 := fun x hx => by
                          rw [List.append_nil] at hx
                          rw [r2]; exact hx
                        have ndn : (a :: (G1 ++ (b :: (Fb ++ [])) ++ G2)).Nodup := by
                          rw [List.append_nil, ← r2]; exact ndF
                        have mB : b ∈ c.B ++ (B1 ++ (a :: (G1 ++ (b :: (Fb ++ [])) ++ G2)) ++ B2) := by
                          refine List.mem_append_right _ (List.mem_append_left _ (List.mem_append_right _ (List.mem_cons_of_mem _ ?_)))
                          exact List.mem_append_left _ (List.mem_append_right _ List.mem_cons_self)
                        have s4 : Same (hd H3 (c.B ++ A)) (hd (upd H3 b (.lst (ys ++ [v]))) (c.B ++ (B1 ++ (a :: (G1 ++ (b :: (Fb ++ [])) ++ G2)) ++ B2))) := by
                          rw [hd_upd mB]
                          exact hd_same (Same.refl _) fun x hx => .inl (sub_of p2 sF x hx)
                        have s5 : Same (hd H2 (c.B ++ A)) (hd (upd H3 b (.lst (ys ++ [v]))) (c.B ++ (B1 ++ (a :: (G1 ++ (b :: (Fb ++ [])) ++ G2)) ++ B2))) := (hd_same s3 fun x hx => .inl hx).trans s4
                        refine ⟨b, ys, v, rfl, rfl, s3 _ _ r5, by rw [r6.length]; exact hl, k σ _ ?_⟩
                        have old : ∀ x, x ≠ b → x ∈ a :: F0 → (upd H3 b (.lst (ys ++ [v]))) x = H2 x := fun x hx hm => by
                          rw [upd_ne hx]
                          have hne : H2 x ≠ none := by
                            rcases List.mem_cons.mp hm with rfl | hm
                            · rw [h5]; simp
                            · exact h6.dom x hm
                          cases z : H2 x with
                          | none => exact absurd z hne
                          | some u => exact s3 x u z
                        have item : RT K cl (hd (upd H3 b (.lst (ys ++ [v]))) (c.B ++ (B1 ++ (a :: (G1 ++ (b :: (Fb ++ [])) ++ G2)) ++ B2))) (upd H3 b (.lst (ys ++ [v]))) (.ref b) (.l (us ++ [.p t.toD])) (b :: (Fb ++ [])) := by
                          refine .l upd_same ((r6.mono s5 fun x hx => old x (fun z => nb (z ▸ hx)) (List.mem_cons_of_mem _ (by rw [r2]; exact List.mem_append_left _ (List.mem_append_right _ (List.mem_cons_of_mem _ hx))))).append ?_)
                          have := RTs.cons (RT.p (H := upd H3 b (.lst (ys ++ [v]))) ((r.mono s4))) (RTs.nil (K := K) (cl := cl))
                          exact this
                        have whole := r4 _ _ (.ref b) _ _ s5 (fun x hx hm => old x (fun z => hx (z ▸ List.mem_cons_self)) (List.mem_cons_of_mem _ hm)) item
                        rw [set_same r1] at whole
                        exact SRA.change h3 p2 (fun G' H' t2 F2 sg hk => p4 G' H' t2 F2 ((hd_same s3 fun x hx => .inl hx).trans sg) fun x hx hA => (hk x hx hA).trans (by
                          cases z : H2 x with
                          | none => exact absurd z (h2.2.2.2.2.dom x hA)
                          | some u => exact s3 x u z)) (fun x hx hn => upd_ne fun z => hx (z ▸ List.mem_cons_of_mem _ bF)) ndn (fun x hx => .inl (sF x hx)) (.l (by rw [upd_ne nab]; exact s3 _ _ h5) whole) (fun x hx => h3.2.1 x (inA x hx))
                      · rw [if_neg hl] at k; exact k.elim
        · rw [qx] at k
          exact fun cv d H3 s3 r3 => k σ H3 cv d ⟨A, h.up s3⟩ r3
        · cases q2 : mk e with
          | bad => rw [q2] at k; exact k
          | exc x => exact n2 x q2
          | ok t2 =>
            rw [q2] at k
            cases t2 with
            | l ts => exact k
            | k ks ts => exact k
            | i C ks ts tg => exact k
            | p d =>
              cases d with
              | int j => exact n1 j q2
              | _ => exact k
theorem js_app1 {ix : Expr} (i : Nat) {x : Str} {ipos : Pos} (hv : ∀ ξ, PE (X ξ) (.Name x pos') (tVar i)) (hk : JE K cl E X ix mk) (h : JE K cl E X a ma)
    (hpl : PlainIx ix := by intro _ _; rfl)
    (hbase : ∀ ξ, attributeBase (.Subscript (.Name x pos') ix ipos) "append" (X ξ).env (eval (.Subscript (.Name x pos') ix ipos) (X ξ).env) = eval (.Subscript (.Name x pos') ix ipos) (X ξ).env := by intro _; rfl)
    (hfew : ∀ ξ, ((backTo cpos (starEach [a] (X ξ).env)).all (fun x => !x.1) && (backToKw cpos (keywordEach [] (X ξ).env)).all (fun x => x.1.isSome)
      && decide ([a].length + ([] : List Keyword).length + (if ([] : List Keyword).isEmpty then 0 else 1) < 30)) = true := by intro _; rfl)
    (hline : (apos.endLine == cpos.line) = true := by rfl) (hs : ∀ ξ, starEach [a] (X ξ).env = (false, eval a (X ξ).env) :: starEach [] (X ξ).env := by intro _; rfl)
    (hsw : ∀ ξ, swapsWith (.Call (.Attribute (.Subscript (.Name x pos') ix ipos) "append" apos) [a] [] cpos) none pos.line (X ξ).env = pure false := by intro _; rfl) :
    JS K cl E X (.Expr (.Call (.Attribute (.Subscript (.Name x pos') ix ipos) "append" apos) [a] [] cpos) pos) (mApp1 i mk ma) := by
  obtain ⟨hK, t, p, s⟩ := h
  obtain ⟨_, t2, p2, s2⟩ := hk
  exact ⟨hK, _, fun ξ => ps_expr (by
    rw [← hK ξ]
    exact pe_bm PySem.F.plainAttrs_list PySem.F.slot_list_append PySem.F.type_list_append mt_append (pe_ix ix_seq (hv ξ) (p2 ξ) hpl) (pa_cons (p ξ) pa_nil (hs ξ)) (hbase ξ) (hfew ξ) hline (hs ξ) rfl) (hsw ξ), ss_app1 s2 s⟩
end
end Nd

namespace Nd
open PySem PySem.Spec PyProof.Rows L2 PySem.W

/-! ### in -/
section
variable {X : Cx}
def rInU (K : PySem.W.Frag) (neg : Bool) : R2 := fun x y H Q => ∃ d ds, Dp K H x d ∧ (Dp K H y (.list ds) ∨ Dp K H y (.tuple ds)) ∧ SeqAt.shaped d = true ∧ SeqAt.shaped (.list ds) = true ∧ Q (.bl (neg ^^ ds.any fun z => PyData.eqv z d)) H
theorem op_inU (hu : X.A.units + 65 < cLine) : OpR X (compareOp .In) (rInU X.K false) := by
  intro pins s σ H x y v u Q I rx ry h
  obtain ⟨d, ds, hd, he, sd, se, q⟩ := h
  rw [Bool.false_xor] at q
  obtain ⟨as, r1⟩ := Dp.reads I d x v hd rx
  rcases he with he | he
  · obtain ⟨bs, r2⟩ := Dp.reads I (.list ds) y u he ry
    exact SeqAt.in_list_reads r2 r1 (SeqAt.canLay_of_shaped se) (SeqAt.canLay_of_shaped sd) (room_in_shaped sd hu) ⟨.bl _, H, I, rfl, q⟩
  · obtain ⟨bs, r2⟩ := Dp.reads I (.tuple ds) y u he ry
    exact SeqAt.in_tuple_reads r2 r1 (SeqAt.canLay_of_shaped se) (SeqAt.canLay_of_shaped sd) (room_in_shaped sd hu) ⟨.bl _, H, I, rfl, q⟩
theorem op_notInU (hu : X.A.units + 65 < cLine) : OpR X (compareOp .NotIn) (rInU X.K true) := by
  intro pins s σ H x y v u Q I rx ry h
  obtain ⟨d, ds, hd, he, sd, se, q⟩ := h
  rw [Bool.true_xor] at q
  obtain ⟨as, r1⟩ := Dp.reads I d x v hd rx
  rcases he with he | he
  · obtain ⟨bs, r2⟩ := Dp.reads I (.list ds) y u he ry
    exact SeqAt.notIn_list_reads r2 r1 (SeqAt.canLay_of_shaped se) (SeqAt.canLay_of_shaped sd) (room_in_shaped sd hu) ⟨.bl _, H, I, rfl, q⟩
  · obtain ⟨bs, r2⟩ := Dp.reads I (.tuple ds) y u he ry
    exact SeqAt.notIn_tuple_reads r2 r1 (SeqAt.canLay_of_shaped se) (SeqAt.canLay_of_shaped sd) (room_in_shaped sd hu) ⟨.bl _, H, I, rfl, q⟩
end

def dInB (x y : D) : Option Bool := match x.toP, y.toP with
  | some p, some (.list qs) => if SeqAt.shaped p = true ∧ SeqAt.shaped (.list qs) = true then some (qs.any fun z => PyData.eqv z p) else none
  | some p, some (.tuple qs) => if SeqAt.shaped p = true ∧ SeqAt.shaped (.list qs) = true then some (qs.any fun z => PyData.eqv z p) else none
  | _, _ => none
def dIn (x y : D) : Option T := (dInB x y).map fun b => .p (.bl b)
def dNotIn (x y : D) : Option T := (dInB x y).map fun b => .p (.bl (!b))
section
variable {K : PySem.W.Frag} {cl : Cl} {E : L2.St → XK} {ι : Type} {X : ι → Cx} {a b : Expr} {ma mb mk : ME} {pos pos' apos cpos : Pos} {es : List Expr}
theorem dInB_some {x y : D} {b : Bool} (e : dInB x y = some b) : ∃ p qs, x.toP = some p ∧ (y.toP = some (.list qs) ∨ y.toP = some (.tuple qs)) ∧ SeqAt.shaped p = true ∧ SeqAt.shaped (.list qs) = true ∧ b = qs.any fun z => PyData.eqv z p := by
  unfold dInB at e
  split at e
  · rename_i p qs e1 e2
    split at e
    · rename_i h; cases e; exact ⟨p, qs, e1, .inl e2, h.1, h.2, rfl⟩
    · cases e
  · rename_i p qs e1 e2
    split at e
    · rename_i h; cases e; exact ⟨p, qs, e1, .inr e2, h.1, h.2, rfl⟩
    · cases e
  · cases e
theorem sem_in : OpSem K cl (rInU K false) dIn := by
  intro H A o x y dx dy t rx ry e Q k
  obtain ⟨b, e1, rfl⟩ := Option.map_eq_some_iff.mp e
  obtain ⟨p, q, h1, h2, h3, h4, rfl⟩ := dInB_some e1
  refine ⟨p, q, dp_of (rx.mono hd_le) h1, h2.imp (dp_of (ry.mono hd_le)) (dp_of (ry.mono hd_le)), h3, h4, ?_⟩
  rw [Bool.false_xor]
  exact OkP.pure k (Same.refl _) (.bl _)
theorem sem_notIn : OpSem K cl (rInU K true) dNotIn := by
  intro H A o x y dx dy t rx ry e Q k
  obtain ⟨b, e1, rfl⟩ := Option.map_eq_some_iff.mp e
  obtain ⟨p, q, h1, h2, h3, h4, rfl⟩ := dInB_some e1
  refine ⟨p, q, dp_of (rx.mono hd_le) h1, h2.imp (dp_of (ry.mono hd_le)) (dp_of (ry.mono hd_le)), h3, h4, ?_⟩
  rw [Bool.true_xor]
  exact OkP.pure k (Same.refl _) (.bl _)
theorem units65 {k : Nat} {A : Around} (r : Room k A) : A.units + 65 < cLine := by have := r.un; omega
theorem je_in {k : Nat} (hr : ∀ ξ, Room k (X ξ).A) (ha : JE K cl E X a ma) (hb : JE K cl E X b mb) (hm : behindInMarks .In b = false := by with_unfolding_all rfl) : JE K cl E X (.Compare a [.In] [b] pos) (mB dIn ma mb) := je_cmp (fun ξ => by rw [← ha.1 ξ]; exact op_inU (units65 (hr ξ))) sem_in ha hb hm
theorem je_notin {k : Nat} (hr : ∀ ξ, Room k (X ξ).A) (ha : JE K cl E X a ma) (hb : JE K cl E X b mb) (hm : behindInMarks .NotIn b = false := by with_unfolding_all rfl) : JE K cl E X (.Compare a [.NotIn] [b] pos) (mB dNotIn ma mb) := je_cmp (fun ξ => by rw [← ha.1 ξ]; exact op_notInU (units65 (hr ξ))) sem_notIn ha hb hm
theorem jb_in {k : Nat} (hr : ∀ ξ, Room k (X ξ).A) (ha : JE K cl E X a ma) (hb : JE K cl E X b mb) (hm : behindInMarks .In b = false := by with_unfolding_all rfl) : JB K cl E X (.Compare a [.In] [b] pos) (asB (mB dIn ma mb)) := jb_cmp (fun ξ => by rw [← ha.1 ξ]; exact op_inU (units65 (hr ξ))) sem_in ha hb hm
theorem jb_notin {k : Nat} (hr : ∀ ξ, Room k (X ξ).A) (ha : JE K cl E X a ma) (hb : JE K cl E X b mb) (hm : behindInMarks .NotIn b = false := by with_unfolding_all rfl) : JB K cl E X (.Compare a [.NotIn] [b] pos) (asB (mB dNotIn ma mb)) := jb_cmp (fun ξ => by rw [← ha.1 ξ]; exact op_notInU (units65 (hr ξ))) sem_notIn ha hb hm
end

/-! ### sorted -/
def encD (d : D) : PyData := d.toP.getD .none
def SortOk (ds : List D) : Prop := (∀ d ∈ ds, ∃ p, d.toP = some p ∧ p.depth ≤ 60) ∧ AllAlike (ds.map encD) ∧ Sortable (ds.map encD) ∧ ds.length ≤ sizeLine
def sortD (ds : List D) : List D := ds.mergeSort (dataLe false encD)
def rSortedD (K : PySem.W.Frag) : List V → Hp → VK → Prop := fun vs H Q => ∃ (a : Addr) (bs : List (V × D)), vs = [V.ref a] ∧ SqL K H a (bs.map Prod.fst) ∧ (∀ b ∈ bs, ∃ p, b.2.toP = some p ∧ Dp K H b.1 p ∧ p.depth ≤ 60) ∧
  AllAlike (bs.map fun b => encD b.2) ∧ Sortable (bs.map fun b => encD b.2) ∧ ∀ p, H p = none → Q (.ref p) (upd H p (.lst ((bs.mergeSort (dataLe false fun b => encD b.2)).map Prod.fst)))
theorem vals_each {xs : List V} {us : List Value} (h : Vals xs us) : ∀ {bs : List (V × D)}, xs = bs.map Prod.fst → EachIs (fun (u : Value) (b : V × D) => RelV b.1 u) us bs := by
  induction h with
  | nil => intro bs e; cases bs with
    | nil => exact .nil
    | cons b bs => cases e
  | cons h1 h2 ih => intro bs e; cases bs with
    | nil => cases e
    | cons b bs =>
      cases e
      exact .cons h1 (ih rfl)
theorem each_vals {us : List Value} {bs : List (V × D)} (h : EachIs (fun (u : Value) (b : V × D) => RelV b.1 u) us bs) : Vals (bs.map Prod.fst) us := by
  induction us generalizing bs with
  | nil => cases h; exact .nil
  | cons u us ih => cases h with
    | cons h1 h2 => exact .cons h1 (ih h2)
theorem cr_sortedD {X : Cx} (hu : X.A.units + 64 < cLine) : CallR X (.builtin "sorted") (rSortedD X.K) := by
  intro pins s σ H vs us Q I r h
  obtain ⟨a, bs, rfl, hs, hb, hal, hso, q⟩ := h
  obtain ⟨its, rv, hl, hz⟩ := I.list hs
  obtain ⟨u, rfl, ru⟩ := vals1 r
  obtain rfl : u = Value.ref a := ru
  have e := vals_each rv rfl
  refine sorted_data (R := fun (u : Value) (b : V × D) => RelV b.1 u) (enc := fun b : V × D => encD b.2) hl.isList e ?_ hal hso (by rw [← List.length_map (f := Prod.fst)]; exact hz) (fun b hm => ?_) fun out ho eo => ?_
  · refine (each_mem e).mono fun v b ⟨hr, hm⟩ => ?_
    obtain ⟨p, e1, e2, _⟩ := hb b hm
    have : encD b.2 = p := by unfold encD; rw [e1]; rfl
    rw [this]
    exact Dp.reads I p b.1 v e2 hr
  · obtain ⟨p, e1, _, e3⟩ := hb b hm
    have : encD b.2 = p := by unfold encD; rw [e1]; rfl
    rw [this]
    omega
  · obtain ⟨c, hc⟩ := sortedAll_at s.heap its out.toArray
    have hd : s.heap.objs.size ≤ s.heap.objs.size + 1 := Nat.le_succ _
    refine ⟨.ref (s.heap.objs.size + 1), upd H (s.heap.objs.size + 1) (.lst ((bs.mergeSort (dataLe false fun b => encD b.2)).map Prod.fst)), I.laid (t' := s.toks) (fun _ _ => sortedAll_old) hd ⟨?_, out, c, each_vals eo, hc⟩, rfl, q _ (I.hok.fresh hd)⟩
    rw [List.length_map, List.length_mergeSort, ← List.length_map (f := Prod.fst)]
    exact hz

open Classical in
noncomputable def fSorted : List D → Option T
  | [.lst ds] => if SortOk ds then some (.l ((sortD ds).map T.p)) else none
  | [.tup ds] => none
  | _ => none
theorem rpA_pairs {K : PySem.W.Frag} {cl : Cl} {H : Hp} : ∀ {bs : List (V × D)}, (∀ b ∈ bs, Rp K cl H b.1 b.2) → RpA K cl H (bs.map Prod.fst) (bs.map Prod.snd)
  | [], _ => .nil
  | b :: bs, h => .cons (h b List.mem_cons_self) (rpA_pairs fun x hx => h x (List.mem_cons_of_mem _ hx))
theorem RpA.zip {K : PySem.W.Frag} {cl : Cl} {H : Hp} {vs : List V} {ds : List D} (h : RpA K cl H vs ds) : ∃ bs : List (V × D), bs.map Prod.fst = vs ∧ bs.map Prod.snd = ds ∧ ∀ b ∈ bs, Rp K cl H b.1 b.2 := by
  induction vs generalizing ds with
  | nil => cases h; exact ⟨[], rfl, rfl, fun _ h => by simp at h⟩
  | cons v vs ih => cases h with
    | cons h1 h2 =>
      obtain ⟨bs, e1, e2, e3⟩ := ih h2
      rename_i d ds
      exact ⟨(v, d) :: bs, by simp [e1], by simp [e2], fun b hb => by
        rcases List.mem_cons.mp hb with rfl | hb
        · exact h1
        · exact e3 b hb⟩
theorem sem_sorted {K : PySem.W.Frag} {cl : Cl} : CSem K cl (rSortedD K) fSorted := by
  intro H A o vs ds t r e Q k
  unfold fSorted at e
  split at e
  · rename_i ds
    split at e
    · rename_i hok
      cases e
      obtain ⟨h1, h2, h3, h4⟩ := hok
      obtain ⟨v1, rfl, r1⟩ := r.one
      cases r1 with
      | lst q1 q2 =>
        rename_i a xs
        obtain ⟨bs, rfl, rfl, h5⟩ := q2.zip
        rw [List.map_map] at h2 h3
        refine ⟨a, bs, rfl, sqL_hid q1, fun b hb => ?_, h2, h3, fun p hp => ?_⟩
        · obtain ⟨pd, e1, e2⟩ := h1 b.2 (List.mem_map.mpr ⟨b, hb, rfl⟩)
          exact ⟨pd, e1, dp_of ((h5 b hb).mono hd_le) e1, e2⟩
        · have e1 : sortD (bs.map Prod.snd) = (bs.mergeSort (dataLe false fun b => encD b.2)).map Prod.snd := by
            unfold sortD
            exact (List.map_mergeSort (f := Prod.snd) (r := dataLe false fun b : V × D => encD b.2) (s := dataLe false encD) (fun a _ b _ => rfl)).symm
          rw [e1] at k
          exact OkP.newLp k (Same.refl _) hp (rpA_pairs fun b hb => h5 b (List.mem_mergeSort.mp hb))
    · cases e
  · cases e
  · cases e
section
variable {K : PySem.W.Frag} {cl : Cl} {E : L2.St → XK} {ι : Type} {X : ι → Cx} {a b : Expr} {ma mb mk : ME} {pos pos' apos cpos : Pos} {es : List Expr}
theorem je_sorted {k : Nat} {p : Pos} {ms : Env → RL} (hr : ∀ ξ, Room k (X ξ).A) (hg : ∀ ξ, Gl (X ξ) "sorted") (hm : ∀ ξ, (X ξ).mg "sorted" = none) (ha : JA K cl E X [a] ms) (he : ∀ ξ, starEach [a] (X ξ).env = (false, eval a (X ξ).env) :: starEach [] (X ξ).env := by intro _; rfl) : JE K cl E X (.Call (.Name "sorted" p) [a] [] pos) (mCB fSorted ms) :=
  je_cb (fun ξ => by rw [← ha.1 ξ]; exact cr_sortedD (hr ξ).units) sem_sorted hg hm (by decide +kernel) ha (by decide) (by decide) he (fun _ => rfl)
end
end Nd

namespace Nd
open PySem PySem.Spec PyProof.Rows L2

/-! ### a caught exception, kept as a value -/
theorem exH_ok {P : Program} {w : World} {H : Hp} {h : Heap} {a : Addr} {c : Value} {oe : Obj} {vs : Array Value} (e : h.get? a = some oe) (z : Zc c none oe) (d : oe.data = .fields vs) : ObjOk P w H h a (ExH c a) :=
  ⟨⟨oe, vs, e, z, d⟩, ⟨oe, e⟩, fun _ _ ⟨o, v, q, r⟩ k => ⟨o, v, k o q, r⟩⟩
section
variable {X : Cx} {pins : List (Addr × Obj)} {σ : L2.St} {H : Hp} {s : Shared}
theorem inv_track {a : Addr} {oe : Obj} {o : HO} (I : Inv X pins σ H s) (ha : s.heap.get? a = some oe) (hn : H a = none) (h0 : X.s_0.heap.get? a = none) (ho : ObjOk X.prog X.w (upd H a o) s.heap a o) (hL : a ≠ X.env.locals)
    (hc : ∀ v, oe.data ≠ .cell v) (hp : ∀ p ∈ X.pn ++ pins, p.1 ≠ a) : Inv X pins σ (upd H a o) s where
  ok := I.ok
  os := I.os
  bare := I.bare
  base := {
    keep := I.base.keep
    slot := I.base.slot
    free := fun b u q n hx => by
      have hb : b ≠ a := fun z => by rw [z, h0] at q; cases q
      rw [upd_ne hb]
      exact I.base.free b u q n hx
    there := I.base.there
    tups := fun b xs q => by
      have := I.base.tups b xs q
      rw [upd_ne (fun z => by rw [z, hn] at this; cases this)]
      exact this
    frzs := fun b u xs q => by
      have := I.base.frzs b u xs q
      rw [upd_ne (fun z => by rw [z, hn] at this; cases this)]
      exact this
    tbls := fun b ps q => by
      obtain ⟨more, this⟩ := I.base.tbls b ps q
      exact ⟨more, by rw [upd_ne (fun z => by rw [z, hn] at this; cases this)]; exact this⟩ }
  loc := I.loc
  cell := I.cell
  free := by rw [upd_ne (Ne.symm hL)]; exact I.free
  freeC := fun x c e => by
    have hca : c ≠ a := fun z => by
      obtain ⟨v, o', e1, e2⟩ := I.cell x c e
      rw [z, ha] at e1
      cases e1
      exact hc v e2
    rw [upd_ne hca]; exact I.freeC x c e
  pin := fun p hm => by
    obtain ⟨q1, q2, q3⟩ := I.pin p hm
    exact ⟨q1, by rw [upd_ne (hp p hm)]; exact q2, q3⟩
  hok := I.hok.laidN (fun _ _ q => q) hn ho
  len := I.len
end

/-- what a try that keeps what it caught wishes of an exception of its body -/
def wKeep (K : PySem.W.Frag) (c : Value) (i j : Nat) (Wout : WX) (D : Ends) : WX := fun cls d σ H =>
  ∃ b, PySem.W.exmOne K cls c = some b ∧ (b = true → d = none ∧ ∀ a, H a = none → D.nx (((σ.set i (some (.ref a))).set j (some (.ref a))).set i none) (upd H a (ExH cls a))) ∧ (b = false → Wout cls d σ H)
section
variable {X : Cx} {x n y : Str} {c : Value} {i j : Nat} {body : List Stmt} {np yp np2 apos pos pos' : Pos} {tb : WX → TS} {Wout : WX}
/-- the suite: y = n, in the suite's context -/
theorem keep_suite {a : Addr} {oe : Obj} {pn : List (Addr × Obj)} (hN : X.N.Nodup) (hi : X.N[i]? = some n) (hj : X.N[j]? = some y) (hly : X.env.scope.names.lookup y = some .local) (hln : X.env.scope.names.lookup n = some .local) (hdn : (n == ("__debug__" : Str)) = false) (hcn : (n == ("__classdict__" : Str)) = false)
    (hs : swapsWith (.Name n np2) (some (.Name y yp)) apos.line X.env = pure false) : PSs (X.suite a pn) [.Assign [.Name y yp] (.Name n np2) apos] (tSeq (tAsg (tVar i) (gName j)) tNext) :=
  pss_cons (ps_set (X := X.suite a pn) hN hj (.inl hly) (pe_var (X := X.suite a pn) hi (.inl hln) hdn hcn) hs (.inr hly)) pss_nil
abbrev XEt (X : Cx) (pins : List (Addr × Obj)) (D : Ends) (g : ExceptHandler) : Value → Shared → Prop := fun u s₁ => wpAny (model X.prog X.w) X.A (noteFrame u X.env) (fun _ s₂ => wpAny (model X.prog X.w) X.A (setFlight u none) (fun _ s₃ =>
  wpAny (model X.prog X.w) X.A (handleBy u X.env [g]) (SP X pins D) X.xe s₃) X.xe s₂) X.xe s₁
theorem ps_try_keep (hex : X.ex = []) (hs : X.stack = X.env :: X.outer) (hf : X.env.frame = some X.env.locals) (hN : X.N.Nodup) (hi : X.N[i]? = some n) (hj : X.N[j]? = some y) (hij : i ≠ j) (hk : X.env.kindOf n = some .local) (hln : X.env.scope.names.lookup n = some .local) (hly : X.env.scope.names.lookup y = some .local)
    (hdn : (n == ("__debug__" : Str)) = false) (hcn : (n == ("__classdict__" : Str)) = false) (hsw : swapsWith (.Name n np2) (some (.Name y yp)) apos.line X.env = pure false) (hc : Names X x c) (tk : Takes X Wout)
    (hb : ∀ (W : WX) (pn : List (Addr × Obj)) (xe : Value → Shared → Prop), Takes (X.tr pn xe) W → PassesOwn (model X.prog X.w) X.A X.env xe → PSs (X.tr pn xe) body (tb W)) :
    PS X (.Try body [.ExceptHandler (some (.Name x np)) (some n) [.Assign [.Name y yp] (.Name n np2) apos] pos'] [] [] pos) (fun D σ H => tb (wKeep X.K c i j Wout D) D σ H) := by
  constructor
  intro pins s σ H D I h
  have ok := I.ok
  have frames : X.A.frames = some (X.env :: X.outer) := by rw [ok.frames, hs]
  apply wpAny_Try_except
  have caught : Takes (X.tr (X.pn ++ pins) (XEt X pins D (.ExceptHandler (some (.Name x np)) (some n) [.Assign [.Name y yp] (.Name n np2) apos] pos'))) (wKeep X.K c i j Wout D) := by
    rintro u s' ⟨a, B, sI, pins', σ', H', cls, d, rfl, JT, ground, up, sky, na, os, bare, b, eb, yes, no⟩
    have J : Inv X pins σ' H' sI := JT.ofTry ok
    have sky : Sky B (X.env :: X.outer) a (Zc cls d) X.env.locals s'.heap := by rw [← hs]; exact sky
    have ground : ∀ b o, sI.heap.get? b = some o → b ∉ frs (X.env :: X.outer) → B.get? b = some o := by rw [← hs]; exact ground
    have Bn : B.get? a = none := by rcases sky with z | z | z <;> exact z.2.1
    show wpAny (model X.prog X.w) X.A (noteFrame (.ref a) X.env) _ _ _
    refine Sky.land Zc.steady frames hf sky fun h3 fl3 up3 => ?_
    have JL : ∀ {h4 : Heap}, HandSPX.FlyingZ B (X.env :: X.outer) a (Zc cls d) h4 → s'.heap.UpToSlots h4 → Inv X pins σ' H' { s' with heap := h4 } := fun {h4} fl u4 => J.landed (by rw [hs]; exact ground) fl.1 (up.trans u4) os bare
    have apart : ∀ {h4 : Heap} {o : Obj} {vs : Array Value}, h4.FunFrames B (X.env :: X.outer) → h4.get? a = some o → o.data = .fields vs → a ∉ frs (X.env :: X.outer) := fun {h4 o vs} ff e dd hm => by
      obtain ⟨_, o', e', hnf⟩ := ff.mem hm
      rw [e] at e'; cases e'
      exact hnf _ dd
    obtain ⟨oe3, vs3, he3, hz3, hd3⟩ := fl3.there
    have nfr := apart fl3.2.2.1 he3 hd3
    have new0 : sI.heap.get? a = none := by
      cases q : sI.heap.get? a with
      | none => rfl
      | some o => have := ground a o q nfr; rw [Bn] at this; cases this
    have nL : a ≠ X.env.locals := fun z => nfr (List.mem_filterMap.mpr ⟨X.env, List.mem_cons_self, by rw [hf, z]⟩)
    have nF : a ∉ X.fs := fun hm => by
      obtain ⟨e, he, q⟩ := List.mem_filterMap.mp hm
      exact nfr (List.mem_filterMap.mpr ⟨e, List.mem_cons_of_mem _ he, q⟩)
    have ask := PySem.W.exm_one (M := model X.prog X.w) (JL fl3 up3).kIn (fun A Q E s k q => wpAny_typeOf_ref (k _ _ he3) (by rw [hz3.1]; exact q)) eb
    refine wpAny_handleBy_cons (codeAny_handlers_test ?_) (by intro q; cases q)
    have load : ∀ {Q : Value → Shared → Prop} {E : Value → Shared → Prop}, Q c { s' with heap := h3 } → wpAny (model X.prog X.w) (X.A.mark (some (.ref a))) (eval (.Name x np) X.env) Q E { s' with heap := h3 } := fun {Q E} q => by
      have S := (JL fl3 up3).suite he3 hd3 na nL nF
      obtain ⟨g1, g2, g3 | ⟨g3, g4, g5⟩⟩ := hc
      · exact ld_glob (X := X.suite a ((a, oe3) :: (X.pn ++ pins))) S g1 g3 q g2
      · exact ld_blt (X := X.suite a ((a, oe3) :: (X.pn ++ pins))) S g1 g3 g4 q g5 g2
    refine load (ask.here ?_)
    cases b with
    | true =>
      obtain ⟨dn, keep⟩ := yes rfl
      refine codeAny_handlers_suite_as (HandSPX.lands_againZ fl3 fun h4 fl4 up4 => ?_)
      have J4 := JL fl4 (up3.trans up4)
      obtain ⟨oe4, vs4, he4, hz4, hd4⟩ := fl4.there
      refine store_ok (X := X.suite a ((a, oe4) :: (X.pn ++ pins))) (v := .ref a) (J4.suite he4 hd4 na nL nF) hN hi (.inl hk) rfl (fun s5 S5 => ?_) (.inr hln)
      have goal : (tSeq (tAsg (tVar i) (gName j)) tNext) { nx := fun σ6 H6 => σ6 = (σ'.set i (some (.ref a))).set j (some (.ref a)) ∧ H6 = H', rt := fun _ _ => False } (σ'.set i (some (.ref a))) H' := by
        refine ⟨.ref a, ?_, rfl, rfl⟩
        have hl : i < σ'.length := by rw [J.len]; exact (List.getElem?_eq_some_iff.mp hi).1
        simp [hl]
      refine wpAny_mono ((keep_suite (a := a) (oe := oe4) (pn := (a, oe4) :: (X.pn ++ pins)) hN hi hj hly hln hdn hcn hsw).run [] s5 _ H' _ S5 goal) (fun f s6 sp => ?_) (fun _ _ z => z.elim)
      cases f with
      | next =>
        obtain ⟨σ6, H6, S6, rfl, rfl⟩ := sp
        have p6 := S6.pin (a, oe4) (List.mem_append_left _ List.mem_cons_self)
        have T6 : Inv X pins _ H6 s6 := S6.unsuite ok
        have h0 : X.s_0.heap.get? a = none := by
          cases q : X.s_0.heap.get? a with
          | none => rfl
          | some o =>
            by_cases hx : a ∈ X.ex
            · rw [hex] at hx; cases hx
            · obtain ⟨o', z⟩ := J.base.there a o q hx
              rw [new0] at z; cases z
        subst dn
        have T7 := inv_track (o := ExH cls a) T6 p6.1 p6.2.1 h0 (exH_ok p6.1 hz4 hd4) nL (fun v z => by rw [hd4] at z; cases z) (fun p hp z => by
          have := (J.pin p hp).1
          rw [z, new0] at this; cases this)
        exact gone_ok T7 hN hi hk fun s7 J7 => ⟨_, _, J7, keep a na⟩
      | brk => obtain ⟨_, _, _, z⟩ := sp; exact z.elim
      | cont => obtain ⟨_, _, _, z⟩ := sp; exact z.elim
      | ret u => obtain ⟨_, _, _, _, _, z⟩ := sp; exact z.elim
    | false =>
      show wpAny _ X.A (handleBy (.ref a) X.env []) _ _ _
      apply wpAny_handleBy_nil
      obtain ⟨k1, k2, k3, oe, vs, TB, oT, ts', he, hz, hd, h1, hr⟩ := id fl3
      have last : wpAny (model X.prog X.w) X.A (setFlight (.ref a) X.env.frame) (fun _ s4 => wpAny (model X.prog X.w) X.A (throw (.ref a) : Sem Flow) (SP X pins D) X.xe s4) X.xe { s' with heap := h3 } := by
        rw [hf]
        exact HandSPX.setFlight_upZ fl3 fun h4 hh4 up4 => wpAny_throw (tk _ _ ⟨a, B, sI, pins, σ', H', cls, d, rfl, J, by rw [hs]; exact ground, (up.trans up3).trans up4, .inr (.inr (by rw [hs]; exact hh4)), na, os, bare, no rfl⟩)
      unfold PySem.passOn
      refine wpAny_bind (wpAny_field he hd h1 ?_)
      have nn : ¬ ((Value.ref TB == Value.none) = true) := by simp
      rw [if_neg nn]
      first
        | exact wpAny_bind (wpAny_pure (wpAny_bind last))
        | exact wpAny_bind last
  refine wpAny_mono ((hb _ _ _ caught PassesOwn.looking).run [] s σ H D (I.toTry _) h) (fun f s1 sp => ?_) (fun _ _ z => z)
  cases f with
  | next => obtain ⟨σ', H', J', q⟩ := sp; exact wpAny_execs_nil ⟨σ', H', J'.ofTry ok, q⟩
  | brk => obtain ⟨σ', H', J', q⟩ := sp; exact ⟨σ', H', J'.ofTry ok, q⟩
  | cont => obtain ⟨σ', H', J', q⟩ := sp; exact ⟨σ', H', J'.ofTry ok, q⟩
  | ret u => obtain ⟨v, σ', H', J', r, q⟩ := sp; exact ⟨v, σ', H', J'.ofTry ok, r, q⟩
end
end Nd

namespace Nd
open PySem PySem.Spec PyProof.Rows L2

/-! ### isinstance, of caught exceptions, too -/
/-- a value's type -/
def TyE (K : PySem.W.Frag) (H : Hp) (x : V) (t : Value) : Prop := TyX K H x t ∨ ∃ a D, x = .ref a ∧ t = .ref D ∧ H a = some (ExH (.ref D) a) ∧ ExcC K D
section
variable {X : Cx} {pins : List (Addr × Obj)} {σ : L2.St} {H : Hp} {s : Shared}
theorem kit_ofE {x : V} {u t : Value} (I : Inv X pins σ H s) (rx : RelV x u) (ty : TyE X.K H x t) : ∃ P : Heap → Prop, PySem.W.KitX X.K u t P ∧ P s.heap ∧ u ≠ .builtin "__main__.__loader__#opaque" := by
  rcases ty with ty | ⟨a, D, rfl, rfl, ea, C⟩
  · exact kit_of I rx ty
  · cases (show u = Value.ref a from rx)
    obtain ⟨⟨oe, vs, e1, z, e2⟩, _, _⟩ := (show ObjOk X.prog X.w H s.heap a (ExH (.ref D) a) from I.hok a _ ea)
    have J : PySem.W.InstAt s.heap a oe D none := by
      obtain ⟨oc, od, oda, osl⟩ := oe
      obtain ⟨h1, h2⟩ := z
      dsimp only at h1 h2 e2
      subst h1 h2 e2
      exact ⟨e1, rfl, rfl, trivial⟩
    exact ⟨_, PySem.W.handS_kitx_exc C.hg C.hk C.hs C.hd C.ha C.hn C.ht C.hm, J, fun z => nomatch z⟩
end
def rIsa (K : PySem.W.Frag) : List V → Hp → VK → Prop := fun xs H Q => ∃ (x c : V) (t : Value) (b : Bool), TyE K H x t ∧ xs = [x, c] ∧ Q (.bl b) H ∧
  ((∃ u, ClsV c u ∧ PySem.W.kitOne K t u = some b) ∨ ∃ tp cs us, c = .ref tp ∧ SqT K H tp cs ∧ Paired ClsV cs us ∧ PySem.W.kitAny K t us = some b)
theorem call_isa {X : Cx} : CallR X (.builtin "isinstance") (rIsa X.K) := by
  intro pins s σ H xs us Q I r h
  obtain ⟨x, c, t, b, ty, rfl, q, k⟩ := h
  obtain ⟨u1, u2, rfl, r1, r2⟩ := vals2 r
  obtain ⟨P, Z, p, hx⟩ := kit_ofE I r1 ty
  rcases k with ⟨u, k, e⟩ | ⟨tp, cs, ws, rfl, hT, k, e⟩
  · have e2 := k.eq r2
    subst e2
    exact PySem.W.kia_one Z I.kIn p e hx fun tk => ⟨.bl b, H, I.tok tk, rfl, q⟩
  · cases (show u2 = Value.ref tp from r2)
    obtain ⟨its, rv, pl, _⟩ := I.tuple hT
    obtain ⟨o, h1, h2, n, h3⟩ := pl
    have e3 := ClsV.all k rv
    subst e3
    obtain ⟨oc, od, dt, sl⟩ := o
    simp only at h2 h3
    subst h2 h3
    exact PySem.W.kia_tup Z I.kIn p h1 e hx fun tk => ⟨.bl b, H, I.tok tk, rfl, q⟩

def bnN : List String := ["NoneType", "bool", "int", "str", "list", "tuple", "dict", "ValueError", "Exception", "TypeError", "KeyError", "IndexError"]
/-- a type or a class by its name -/
def tvN (cl : Cl) (n : String) : Value := if n ∈ bnN then .type n else .ref (cl n)
/-- which type a value is of -/
def D.tyE : D → Option String
  | .non => some "NoneType"
  | .bl _ => some "bool"
  | .int _ => some "int"
  | .str _ => some "str"
  | .lst _ => some "list"
  | .tup _ => some "tuple"
  | .dk _ _ => some "dict"
  | .ex C _ _ => some C
  | _ => none
/-- a class as a value -/
def D.clE : D → Option String
  | .ty n => if n ∈ bnN then some n else none
  | .cls C => if C ∈ bnN then none else some C
  | _ => none
def D.clEs : List D → Option (List String)
  | [] => some []
  | d :: ds => match D.clE d, D.clEs ds with
    | some c, some cs => some (c :: cs)
    | _, _ => none
/-- what isinstance tells of types and classes; of which classes there are exceptions -/
structure IsaOk (K : PySem.W.Frag) (cl : Cl) (isa : String → String → Option Bool) (xc : List String) : Prop where
  is : ∀ a c b, isa a c = some b → PySem.W.kitOne K (tvN cl a) (tvN cl c) = some b
  ex : ∀ C ∈ xc, C ∉ bnN ∧ ExcC K (cl C)
def isaAny (isa : String → String → Option Bool) (a : String) : List String → Option Bool
  | [] => some false
  | c :: cs => match isa a c with
    | some true => some true
    | some false => isaAny isa a cs
    | none => none
def isEx : D → Option String
  | .ex C _ _ => some C
  | _ => none
def fIsa (isa : String → String → Option Bool) (xc : List String) : List D → Option T
  | [d, .tup cs] => match D.tyE d, D.clEs cs with
    | some a, some ns => if (∀ C, isEx d = some C → C ∈ xc) then (isaAny isa a ns).map fun b => .p (.bl b) else none
    | _, _ => none
  | [d, c] => match D.tyE d, D.clE c with
    | some a, some n => if (∀ C, isEx d = some C → C ∈ xc) then (isa a n).map fun b => .p (.bl b) else none
    | _, _ => none
  | _ => none

section
variable {K : PySem.W.Frag} {cl : Cl} {isa : String → String → Option Bool} {xc : List String}
theorem rp_tyE {H : Hp} {A : List Addr} {v : V} {d : D} {m : String} (o : IsaOk K cl isa xc) (h : Rp K cl (hd H A) v d) (e : d.tyE = some m) (hx : ∀ C, isEx d = some C → C ∈ xc) : TyE K H v (tvN cl m) := by
  have base : ∀ {n : String}, d.tyN = some n → tvN cl n = .type n → m = n → TyE K H v (tvN cl m) := fun {n} h1 h2 h3 => by
    subst h3
    rw [h2]
    exact .inl (rp_ty h h1)
  cases h with
  | non => cases e; exact base rfl (by unfold tvN bnN; rw [if_pos (by decide)]) rfl
  | bl b => cases e; exact base rfl (by unfold tvN bnN; rw [if_pos (by decide)]) rfl
  | int i => cases e; exact base rfl (by unfold tvN bnN; rw [if_pos (by decide)]) rfl
  | str x => cases e; exact base rfl (by unfold tvN bnN; rw [if_pos (by decide)]) rfl
  | lst h1 h2 => cases e; exact base rfl (by unfold tvN bnN; rw [if_pos (by decide)]) rfl
  | tup h1 h2 => cases e; exact base rfl (by unfold tvN bnN; rw [if_pos (by decide)]) rfl
  | dk h1 h2 h3 => cases e; exact base rfl (by unfold tvN bnN; rw [if_pos (by decide)]) rfl
  | ins _ _ _ => cases e
  | ty _ => cases e
  | cls _ => cases e
  | ex h1 =>
    rename_i a C
    cases e
    obtain ⟨h2, h3⟩ := o.ex _ (hx m rfl)
    unfold tvN
    rw [if_neg h2]
    exact .inr ⟨a, cl m, rfl, rfl, hd_le _ _ h1, h3⟩
theorem rp_clE {H : Hp} {v : V} {d : D} {m : String} (h : Rp K cl H v d) (e : d.clE = some m) : ClsV v (tvN cl m) := by
  cases h with
  | ty n =>
    simp only [D.clE] at e
    split at e
    · rename_i hn; cases e; unfold tvN; rw [if_pos hn]; exact .ty _
    · cases e
  | cls C =>
    simp only [D.clE] at e
    split at e
    · cases e
    · rename_i hn; cases e; unfold tvN; rw [if_neg hn]; exact .own _
  | _ => cases e
theorem rp_clEs {H : Hp} : ∀ {ds : List D} {vs : List V} {ms : List String}, RpA K cl H vs ds → D.clEs ds = some ms → Paired ClsV vs (ms.map (tvN cl))
  | [], vs, ms, h, e => by cases h; cases e; exact .nil
  | d :: ds, vs, ms, h, e => by
    cases h with
    | cons h1 h2 =>
      simp only [D.clEs] at e
      split at e
      · rename_i c cs e1 e2
        cases e
        exact .cons (rp_clE h1 e1) (rp_clEs h2 e2)
      · cases e
theorem isaAny_ok (o : IsaOk K cl isa xc) {a : String} : ∀ {ns : List String} {b : Bool}, isaAny isa a ns = some b → PySem.W.kitAny K (tvN cl a) (ns.map (tvN cl)) = some b
  | [], b, e => by cases e; rfl
  | c :: cs, b, e => by
    simp only [isaAny] at e
    rw [List.map_cons]
    unfold PySem.W.kitAny
    split at e
    · rename_i h; cases e; rw [o.is _ _ _ h]
    · rename_i h; rw [o.is _ _ _ h]; exact isaAny_ok o e
    · cases e
theorem sem_isa (o : IsaOk K cl isa xc) : CSem K cl (rIsa K) (fIsa isa xc) := by
  intro H A ow vs ds t r e Q k
  unfold fIsa at e
  split at e
  · rename_i d cs
    split at e
    · rename_i a ns e1 e2
      split at e
      · rename_i hx
        obtain ⟨b, e3, rfl⟩ := Option.map_eq_some_iff.mp e
        obtain ⟨v1, v2, rfl, h1, h2⟩ := r.two
        cases h2 with
        | tup q1 q2 =>
          refine ⟨v1, _, _, b, rp_tyE o h1 e1 hx, rfl, OkP.pure k (Same.refl _) (.bl _), .inr ⟨_, _, _, rfl, sqT_hid q1, rp_clEs q2 e2, isaAny_ok o e3⟩⟩
      · cases e
    · cases e
  · rename_i d c _
    split at e
    · rename_i a n e1 e2
      split at e
      · rename_i hx
        obtain ⟨b, e3, rfl⟩ := Option.map_eq_some_iff.mp e
        obtain ⟨v1, v2, rfl, h1, h2⟩ := r.two
        exact ⟨v1, v2, _, b, rp_tyE o h1 e1 hx, rfl, OkP.pure k (Same.refl _) (.bl _), .inl ⟨_, rp_clE h2 e2, o.is _ _ _ e3⟩⟩
      · cases e
    · cases e
  · cases e
end
section
variable {K : PySem.W.Frag} {cl : Cl} {E : L2.St → XK} {ι : Type} {X : ι → Cx} {a b : Expr} {ma mb : ME} {pos pos' apos cpos : Pos} {es : List Expr} {isa : String → String → Option Bool} {xc : List String}
theorem je_isa {p : Pos} {ms : Env → RL} (o : IsaOk K cl isa xc) (hg : ∀ ξ, Gl (X ξ) "isinstance") (hm : ∀ ξ, (X ξ).mg "isinstance" = none) (ha : JA K cl E X [a, b] ms) (he : ∀ ξ, starEach [a, b] (X ξ).env = (false, eval a (X ξ).env) :: starEach [b] (X ξ).env := by intro _; rfl)
    (hpl : ∀ ξ, (backTo pos (starEach [b] (X ξ).env)).any (·.1) = false := by intro _; rfl) : JE K cl E X (.Call (.Name "isinstance" p) [a, b] [] pos) (mCB (fIsa isa xc) ms) :=
  je_cb (fun ξ => by rw [← ha.1 ξ]; exact call_isa) (sem_isa o) hg hm (by decide +kernel) ha (by decide) (by decide) he hpl
/-- a class of the program, by its name -/
theorem je_cls {x : Str} {C : String} (hK : ∀ ξ, (X ξ).K = K) (hg : ∀ ξ, Gl (X ξ) x) (hm : ∀ ξ, (X ξ).mg x = some (.ref (cl C))) (hd : (x == ("__debug__" : Str)) = false := by decide) : JE K cl E X (.Name x pos) (mC (.cls C)) :=
  ⟨hK, _, fun ξ => pe_glob (hg ξ) (hm ξ) (v := .ref (cl C)) rfl hd, se_c fun _ => .cls C⟩

/-! ### raise -/
/-- an own class of exceptions, without __init__ -/
structure XCl (K : PySem.W.Frag) (cl : Cl) (C : String) : Prop where
  ex : ∃ (B newId initId : String) (bmB : List Value), ExcBaseFacts B newId initId bmB ∧ PySem.W.excIn K (cl C) bmB newId = true
  keep : PySem.W.keepIn K (.ref (cl C)) = true
  sub : PySem.W.subIn K (.ref (cl C)) (.type "BaseException") = some true
  ty : PySem.W.typeIn K (.ref (cl C)) = some (.type "type")
def mRaise (C : String) : MS := fun e => .exc (C, []) e
theorem js_raise {x m : Str} {j : Nat} {p p2 : Pos} {C : String} (hK : ∀ ξ, (X ξ).K = K) (hc : ∀ ξ, (X ξ).calm = true) (tk : ∀ ξ, Takes (X ξ) fun cls d σ H => E σ cls d H) (c : XCl K cl C) (hg : ∀ ξ, Gl (X ξ) x) (hm : ∀ ξ, (X ξ).mg x = some (.ref (cl C))) (hd : (x == ("__debug__" : Str)) = false := by decide) :
    JS K cl E X (.Raise (some (.Call (.Name x p) [.Constant (.str m) j p2] [] pos')) none pos) (mRaise C) := by
  obtain ⟨B, newId, initId, bmB, F, q⟩ := c.ex
  refine ⟨hK, _, fun ξ => ps_raise (hc ξ) (tk ξ) (pmk_own F (by rw [hK ξ]; exact q) (hm ξ) (by rw [hK ξ]; exact c.keep) (raises_own (by rw [hK ξ]; exact c.sub) (by rw [hK ξ]; exact c.ty)) (hg ξ) hd), fun cn σ H e hs D k => ?_⟩
  exact k σ H _ none hs ⟨rfl, rfl, rfl⟩
end
end Nd

namespace Nd
open PySem PySem.Spec PyProof.Rows L2

/-! ### try: .. except C as n: y = n -/
/-- the contexts of a try's body -/
structure TrI {ι : Type} (X : ι → Cx) (W : WX) where
  ξ : ι
  pn : List (Addr × Obj)
  xe : Value → Shared → Prop
  tk : Takes ((X ξ).tr pn xe) W
  po : PassesOwn (model (X ξ).prog (X ξ).w) (X ξ).A (X ξ).env xe
abbrev trX {ι : Type} (X : ι → Cx) (W : WX) : TrI X W → Cx := fun p => (X p.ξ).tr p.pn p.xe
def mTryK (cat : String → Option Bool) (i j : Nat) (m : MS) : MS := fun e => match m e with
  | .exc x e1 => (match cat x.1, x.2 with
    | some true, [] => if i < e1.length ∧ j < e1.length then .nx ((e1.set j (some (.p (.ex x.1 [] [])))).set i none) else .bad
    | some false, _ => .exc x e1
    | _, _ => .bad)
  | r => r
section
variable {K : PySem.W.Frag} {cl : Cl} {E : L2.St → XK} {c : Cn} {σ : L2.St} {H : Hp} {e : Env}
theorem SR.forget (h : SR K cl c σ H e) (i : Nat) (x : Option V) : SR K cl c (σ.set i x) H (e.set i none) := by
  obtain ⟨A, nd, f, s, g, r⟩ := h
  obtain ⟨A', r', nd', sub⟩ := r.forget nd i x
  refine ⟨A', nd', fun a ha => f a (sub a ha), s, ?_, ?_⟩
  · exact c.up _ _ (hd_same (Same.refl _) fun a ha => (List.mem_append.mp ha).elim (fun z => .inl (List.mem_append_left _ z)) fun z => .inl (List.mem_append_right _ (sub a z))) g
  · exact r'.mono (hd_same (Same.refl _) fun a ha => (List.mem_append.mp ha).elim (fun z => .inl (List.mem_append_left _ z)) fun z => .inl (List.mem_append_right _ (sub a z))) fun _ _ => rfl
/-- the caught one is kept at slot j, the clause's own name at slot i goes -/
theorem SR.caught (h : SR K cl c σ H e) {i j : Nat} (hij : i ≠ j) (hj : j < e.length) {a : Addr} {C : String} (ha : H a = none) :
    SR K cl c (((σ.set i (some (.ref a))).set j (some (.ref a))).set i none) (upd H a (ExH (.ref (cl C)) a)) ((e.set j (some (.p (.ex C [] [])))).set i none) := by
  obtain ⟨A, h⟩ := h
  have s2 : Same H (upd H a (ExH (.ref (cl C)) a)) := same_upd ha
  have q := h.set (i := j) (v := .ref a) (t := .p (.ex C [] [])) (F := []) s2 (fun b hb => by simp at hb) List.nodup_nil (.p (.ex (by
    rw [List.append_nil]
    refine hd_some.mpr ⟨fun z => ?_, upd_same⟩
    rcases List.mem_append.mp z with z | z
    · have o := (c.bs a z).same h.2.2.1
      exact o.ne ha
    · exact h.2.2.2.2.dom a z ha))) hj
  have e1 : ((σ.set i (some (.ref a))).set j (some (.ref a))).set i none = (σ.set j (some (.ref a))).set i none := by
    rw [List.set_comm (l := σ) (some (V.ref a)) (some (V.ref a)) hij, List.set_set]
  rw [e1]
  exact q.forget i none
variable {ι : Type} {X : ι → Cx}
theorem js_tryK {x n y : Str} {cv : Value} {i j : Nat} {body : List Stmt} {np yp np2 apos pos pos' : Pos} {cat : String → Option Bool} {m : MS}
    (hK : ∀ ξ, (X ξ).K = K) (hcat : ∀ C b, cat C = some b → PySem.W.exmOne K (.ref (cl C)) cv = some b) (hij : i ≠ j)
    (hex : ∀ ξ, (X ξ).ex = []) (hs : ∀ ξ, (X ξ).stack = (X ξ).env :: (X ξ).outer) (hf : ∀ ξ, (X ξ).env.frame = some (X ξ).env.locals) (hN : ∀ ξ, (X ξ).N.Nodup) (hi : ∀ ξ, (X ξ).N[i]? = some n) (hj : ∀ ξ, (X ξ).N[j]? = some y)
    (hk : ∀ ξ, (X ξ).env.kindOf n = some .local) (hln : ∀ ξ, (X ξ).env.scope.names.lookup n = some .local) (hly : ∀ ξ, (X ξ).env.scope.names.lookup y = some .local)
    (hdn : (n == ("__debug__" : Str)) = false) (hcn : (n == ("__classdict__" : Str)) = false) (hsw : ∀ ξ, swapsWith (.Name n np2) (some (.Name y yp)) apos.line (X ξ).env = pure false) (hc : ∀ ξ, Names (X ξ) x cv)
    (tk : ∀ ξ, Takes (X ξ) fun cls d σ H => E σ cls d H)
    (hb : ∀ W : WX, JSs K cl (WE W) (trX X W) body m) :
    JS K cl E X (.Try body [.ExceptHandler (some (.Name x np)) (some n) [.Assign [.Name y yp] (.Name n np2) apos] pos'] [] [] pos) (mTryK cat i j m) := by
  refine ⟨hK, fun D σ H => (hb (wKeep K cv i j (fun cls d σ H => E σ cls d H) D)).2.choose D σ H, fun ξ => ?_, fun cn σ H e hs' D k => ?_⟩
  · have := ps_try_keep (X := X ξ) (x := x) (n := n) (y := y) (c := cv) (i := i) (j := j) (body := body) (np := np) (yp := yp) (np2 := np2) (apos := apos) (pos := pos) (pos' := pos') (tb := fun W => (hb W).2.choose) (hex ξ) (hs ξ) (hf ξ) (hN ξ) (hi ξ) (hj ξ) hij (hk ξ) (hln ξ) (hly ξ) hdn hcn (hsw ξ) (hc ξ) (tk ξ)
      (fun W pn xe t p => (hb W).2.choose_spec.1 ⟨ξ, pn, xe, t, p⟩)
    rw [hK ξ] at this
    exact this
  · refine (hb _).2.choose_spec.2 cn σ H e hs' D ?_
    unfold mTryK at k
    cases q : m e with
    | bad => rw [q] at k; exact k
    | nx e1 => rw [q] at k; exact k
    | bk e1 => rw [q] at k; exact k
    | ct e1 => rw [q] at k; exact k
    | rt t => rw [q] at k; exact k
    | exc x1 e1 =>
      rw [q] at k
      obtain ⟨C, fs⟩ := x1
      simp only at k
      intro σ2 H2 v d r2 rep
      obtain ⟨e0, e2, e3⟩ := rep
      simp only at e0 e2
      subst e0 e2 e3
      cases qc : cat C with
      | none => rw [qc] at k; exact k.elim
      | some b =>
        refine ⟨b, hcat C b qc, fun hb1 => ⟨rfl, fun a ha => ?_⟩, fun hb1 => ?_⟩
        · subst hb1
          rw [qc] at k
          simp only at k
          split at k
          · rename_i hlt
            exact k _ _ (r2.caught hij hlt.2 ha)
          · exact k.elim
        · subst hb1
          rw [qc] at k
          exact k σ2 H2 _ none r2 ⟨rfl, rfl, rfl⟩
end
end Nd
namespace Nd
open PySem PySem.Spec PyProof.Rows L2
/-! ### tables of classes -/
def clOf : List (String × Addr) → Cl
  | [], _ => 0
  | (n, a) :: r, s => if n = s then a else clOf r s
def isaOf : List ((String × String) × Bool) → String → String → Option Bool
  | [], _, _ => none
  | ((a, c), b) :: r, x, y => if a = x ∧ c = y then some b else isaOf r x y
def catOf : List (String × Bool) → String → Option Bool
  | [], _ => none
  | (a, b) :: r, x => if a = x then some b else catOf r x
section
variable {K : PySem.W.Frag} {cl : Cl}
def TblOk (K : PySem.W.Frag) (cl : Cl) : List ((String × String) × Bool) → Prop
  | [] => True
  | ((a, c), b) :: r => PySem.W.kitOne K (tvN cl a) (tvN cl c) = some b ∧ TblOk K cl r
theorem isa_ok : ∀ {t : List ((String × String) × Bool)}, TblOk K cl t → ∀ a c b, isaOf t a c = some b → PySem.W.kitOne K (tvN cl a) (tvN cl c) = some b
  | [], _, _, _, _, e => by cases e
  | ((a, c), b) :: r, h, x, y, b', e => by
    simp only [isaOf] at e
    split at e
    · rename_i q; cases e; rw [← q.1, ← q.2]; exact h.1
    · exact isa_ok h.2 x y b' e
def CatOk (K : PySem.W.Frag) (cl : Cl) (cv : Value) : List (String × Bool) → Prop
  | [] => True
  | (a, b) :: r => PySem.W.exmOne K (.ref (cl a)) cv = some b ∧ CatOk K cl cv r
theorem cat_ok {cv : Value} : ∀ {t : List (String × Bool)}, CatOk K cl cv t → ∀ C b, catOf t C = some b → PySem.W.exmOne K (.ref (cl C)) cv = some b
  | [], _, _, _, e => by cases e
  | (a, b) :: r, h, x, b', e => by
    simp only [catOf] at e
    split at e
    · rename_i q; cases e; rw [← q]; exact h.1
    · exact cat_ok h.2 x b' e
theorem xcl_mk {C : String} {a : Addr} (e : cl C = a) (q : PySem.W.excIn K a [.type "ValueError", .type "Exception", .type "BaseException", .type "object"] "ValueError.__new__" = true) (k : PySem.W.keepIn K (.ref a) = true) (s : PySem.W.subIn K (.ref a) (.type "BaseException") = some true) (t : PySem.W.typeIn K (.ref a) = some (.type "type")) : XCl K cl C := by
  subst e
  exact ⟨⟨_, _, _, _, PySem.F.excBase_ValueError, q⟩, k, s, t⟩
theorem kit_mk {x y : String} {u v : Value} {b : Bool} (h : PySem.W.kitOne K u v = some b) (e1 : tvN cl x = u) (e2 : tvN cl y = v) : PySem.W.kitOne K (tvN cl x) (tvN cl y) = some b := by rw [e1, e2]; exact h
end
end Nd

namespace Nd
open PySem PySem.Spec PyProof.Rows L2

/-! ### fields of instances -/
def lookD (f : Str) : List Str → List D → Option D
  | k :: ks, d :: ds => if f == k then some d else lookD f ks ds
  | _, _ => none
def dFld (C0 : String) (f : Str) : D → Option T
  | .ins C ks ds => if C = C0 then (lookD f ks ds).map T.p else none
  | _ => none
section
variable {K : PySem.W.Frag} {cl : Cl} {E : L2.St → XK} {ι : Type} {X : ι → Cx} {a b : Expr} {ma mb : ME} {pos pos' apos cpos : Pos} {es : List Expr}
theorem lookD_some {H : Hp} {f : Str} {d : D} : ∀ {fs : List (Str × V)} {ds : List D}, RpA K cl H (fs.map (·.2)) ds → lookD f (fs.map (·.1)) ds = some d → ∃ v, fs.lookup f = some v ∧ Rp K cl H v d
  | [], ds, h, e => by cases h; cases e
  | (k, v) :: fs, ds, h, e => by
    cases h with
    | cons h1 h2 =>
      simp only [List.map_cons, lookD] at e
      rw [List.lookup_cons]
      split at e
      · rename_i hk; cases e; rw [hk]; exact ⟨v, rfl, h1⟩
      · rename_i hk
        rw [Bool.not_eq_true] at hk
        rw [hk]
        exact lookD_some h2 e
theorem je_fld {C0 : String} {f : Str} (c : Cls K (cl C0)) (n : NoAttr K (cl C0) f) (h : JE K cl E X a ma) (hb : ∀ ξ, attributeBase a f (X ξ).env (eval a (X ξ).env) = eval a (X ξ).env := by intro _; rfl) : JE K cl E X (.Attribute a f pos) (mU (dFld C0 f) ma) := by
  obtain ⟨hK, t, p, s⟩ := h
  refine ⟨hK, tFld K t f, fun ξ => by rw [← hK ξ]; exact pe_fld (p ξ) (hb ξ), fun σ H e A1 st Q k => ?_⟩
  refine s.d st ?_
  unfold mU at k
  cases q : ma e with
  | bad => rw [q] at k; exact k
  | exc x => rw [q] at k; exact k
  | ok t' =>
    rw [q] at k
    simp only at k
    intro v H2 u r
    cases qd : t'.toD with
    | ins C ks ds =>
      rw [qd] at k r
      simp only [dFld] at k
      by_cases hC : C = C0
      · rw [if_pos hC] at k
        subst hC
        cases r with
        | ins h1 h2 h3 =>
          rename_i a0 dx fs
          subst h2
          cases ql : lookD f (fs.map (·.1)) ds with
          | none => rw [ql] at k; exact k.elim
          | some d =>
            rw [ql] at k
            obtain ⟨w, e1, e2⟩ := lookD_some h3 ql
            exact ⟨a0, _, dx, fs, w, rfl, hd_le _ _ h1, c, n, e1, OkP.pure k u e2⟩
      · rw [if_neg hC] at k; exact k.elim
    | _ => rw [qd] at k; exact k.elim
end

/-! ### methods -/
def tMethS (C : Addr) (m : Str) (sp : Sp) (E : L2.St → XK) (ta : TE) (t : TA) : TE := fun σ H Q => ta σ H fun x H1 => ∃ a dx fs, x = .ref a ∧ H1 a = some (.ins C dx fs) ∧ fs.lookup m = none ∧ t σ H1 fun vs H2 => sp (x :: vs) H2 Q (E σ)
section
variable {X : Cx} {CX : CXT} {k : Nat} {f C : Addr} {fd : FuncData} {ps : List Str} {sp : Sp} {E : L2.St → XK} {m : Str} {pos apos : Pos} {e o : Expr} {es : List Expr} {ta : TE} {t : TA}
theorem pe_methX {pl : Sem Bool} (he : PE X o ta) (c : Cls X.K C) (hm : Meth X.K C m f) (F : FnG X.prog X.w X.K X.mg X.base CX k f fd ps sp) (hr : RoomG k X.A) (hb : Binds X.K fd ps []) (hx : ∀ σ, PassesAt CX X σ (E σ)) (ha : PA X (e :: es) t)
    (hst : starEach (e :: es) X.env = (false, eval e X.env) :: starEach es X.env) (hpl : (backTo pos (starEach es X.env)).any (·.1) = false)
    (ht : eval (.Call (.Attribute o m apos) (e :: es) [] pos) X.env = (do
      let ov ← eval o X.env
      standAt apos.atName
      let (f, first) ← holding [ov] (getMethod ov m pl)
      callWith pos f first (backTo pos (starEach (e :: es) X.env)) (backToKw pos (keywordEach [] X.env)))) :
    PE X (.Call (.Attribute o m apos) (e :: es) [] pos) (tMethS C m sp E ta t) := by
  constructor
  intro pins s σ H Q I h
  refine PySem.W.methodCall_KW (pl := pl) (thn (he.run pins s σ H _ I h) fun u s1 ⟨x, H1, I1, rx, a, dx, fs, ex, ea, l, q⟩ => ?_) ht
  cases ex
  cases (show u = Value.ref a from rx)
  exact getmeth_ok I1 ea c hm l (PySem.W.callWith_K (first := [.ref a]) (h₀ := X.base) I.ok.mod.kin hm.kp (thn (ha.run pos pins s1 σ H1 _ I1 q) fun us s2 ⟨vs, H2, I2, r, q2⟩ => ⟨I2.kIn, run_fnG (us := .ref a :: us) (vs := .ref a :: vs) F hr hb (hx σ) I2 (.cons rfl r) q2⟩) hst hpl)
theorem pe_methX0 {pl : Sem Bool} (he : PE X o ta) (c : Cls X.K C) (hm : Meth X.K C m f) (F : FnG X.prog X.w X.K X.mg X.base CX k f fd ps sp) (hr : RoomG k X.A) (hb : Binds X.K fd ps []) (hx : ∀ σ, PassesAt CX X σ (E σ))
    (ht : eval (.Call (.Attribute o m apos) [] [] pos) X.env = (do
      let ov ← eval o X.env
      standAt apos.atName
      let (f, first) ← holding [ov] (getMethod ov m pl)
      callWith pos f first (backTo pos (starEach [] X.env)) (backToKw pos (keywordEach [] X.env)))) :
    PE X (.Call (.Attribute o m apos) [] [] pos) (tMethS C m sp E ta tNil) := by
  constructor
  intro pins s σ H Q I h
  refine PySem.W.methodCall_KW (pl := pl) (thn (he.run pins s σ H _ I h) fun u s1 ⟨x, H1, I1, rx, a, dx, fs, ex, ea, l, q⟩ => ?_) ht
  cases ex
  cases (show u = Value.ref a from rx)
  exact getmeth_ok I1 ea c hm l (PySem.W.callWith_K0 (first := [.ref a]) I1.kIn hm.kp (run_fnG (us := [.ref a]) (vs := [.ref a]) F hr hb (hx σ) I1 (.cons rfl .nil) q))
end
/-- a method, by its class's name and its own: it keeps to its mirror -/
structure Mn (P : Program) (w : World) (K : PySem.W.Frag) (mg : Str → Option Value) (base : Heap) (cl : Cl) (k : Nat) (C : String) (m : Str) (n : Nat) (M : List D → RE) : Prop where
  ex : ∃ (f : Addr) (fd : FuncData) (ps : List Str), FnG P w K mg base (L2.CX P w) k f fd ps (spM K cl n M) ∧ Meth K (cl C) m f ∧ Binds K fd ps []
  cls : Cls K (cl C)
def noKey (m : Str) : List Str → Bool
  | [] => true
  | k :: ks => !(m == k) && noKey m ks
theorem noKey_lookup {m : Str} : ∀ {fs : List (Str × V)}, noKey m (fs.map (·.1)) = true → fs.lookup m = none
  | [], _ => rfl
  | (k, v) :: fs, h => by
    simp only [List.map_cons, noKey, Bool.and_eq_true, Bool.not_eq_true'] at h
    rw [List.lookup_cons, h.1]
    exact noKey_lookup h.2
def mMeth (C0 : String) (m : Str) (n : Nat) (M : List D → RE) (mo : ME) (ms : Env → RL) : ME := fun e => match mo e with
  | .ok t => (match t.toD with
    | .ins C ks ds => if C = C0 ∧ noKey m ks = true then (match ms e with
      | .ok as => if as.length + 1 = n then M (.ins C ks ds :: as) else .bad
      | .exc x => .exc x
      | .bad => .bad) else .bad
    | _ => .bad)
  | r => r
section
variable {K : PySem.W.Frag} {cl : Cl} {E : L2.St → XK} {ι : Type} {X : ι → Cx} {a b : Expr} {ma mb : ME} {pos pos' apos cpos : Pos} {es : List Expr}
theorem se_meth {to : TE} {t : TA} {ms : Env → RL} {C0 : String} {m : Str} {n : Nat} {M : List D → RE} (so : SE K cl E to ma) (sa : SA K cl E t ms) : SE K cl E (tMethS (cl C0) m (spM K cl n M) E to t) (mMeth C0 m n M ma ms) := fun σ H e A1 st Q k => by
  refine so.d st ?_
  unfold mMeth at k
  cases q : ma e with
  | bad => rw [q] at k; exact k
  | exc x => rw [q] at k; exact k
  | ok t' =>
    rw [q] at k
    simp only at k
    intro v H2 u r
    cases qd : t'.toD with
    | ins C ks ds =>
      rw [qd] at k r
      simp only at k
      by_cases hC : C = C0 ∧ noKey m ks = true
      · rw [if_pos hC] at k
        obtain ⟨hC, hn⟩ := hC
        subst hC
        cases r with
        | ins h1 h2 h3 =>
          rename_i a0 dx fs
          refine ⟨a0, dx, fs, rfl, hd_le _ _ h1, noKey_lookup (by rw [h2]; exact hn), ?_⟩
          refine sa σ H2 e A1 (st.up u) _ ?_
          cases qs : ms e with
          | bad => rw [qs] at k; exact k
          | exc x => rw [qs] at k; exact ExP.up u k
          | ok as =>
            rw [qs] at k
            simp only at k
            intro vs H3 u3 r3
            by_cases hl : as.length + 1 = n
            · rw [if_pos hl] at k
              exact ⟨.ins C ks ds :: as, A1, hl, .cons (Rp.mono (hd_same u3 fun x hx => .inl hx) (.ins h1 h2 h3)) r3, fun x hx => (st.1 x hx).same (u.trans u3), EPost.up (u.trans u3) k⟩
            · rw [if_neg hl] at k; exact k.elim
      · rw [if_neg hC] at k; exact k.elim
    | _ => rw [qd] at k; exact k.elim
theorem je_meth {k n : Nat} {C0 : String} {m : Str} {M : List D → RE} {ms : Env → RL} {pl : Sem Bool} (D : ∀ ξ, Mn (X ξ).prog (X ξ).w (X ξ).K (X ξ).mg (X ξ).base cl k C0 m n M) (hr : ∀ ξ, RoomG k (X ξ).A) (hx : ∀ ξ σ, PassesAt (L2.CX (X ξ).prog (X ξ).w) (X ξ) σ (E σ))
    (ho : JE K cl E X a ma) (ha : JA K cl E X (b :: es) ms) (he : ∀ ξ, starEach (b :: es) (X ξ).env = (false, eval b (X ξ).env) :: starEach es (X ξ).env := by intro _; rfl) (hpl : ∀ ξ, (backTo pos (starEach es (X ξ).env)).any (·.1) = false := by intro _; rfl)
    (ht : ∀ ξ, eval (.Call (.Attribute a m apos) (b :: es) [] pos) (X ξ).env = (do
      let ov ← eval a (X ξ).env
      standAt apos.atName
      let (f, first) ← holding [ov] (getMethod ov m pl)
      callWith pos f first (backTo pos (starEach (b :: es) (X ξ).env)) (backToKw pos (keywordEach [] (X ξ).env))) := by intro _; rfl) : JE K cl E X (.Call (.Attribute a m apos) (b :: es) [] pos) (mMeth C0 m n M ma ms) := by
  obtain ⟨hK, to, po, so⟩ := ho
  obtain ⟨_, t, pa, sa⟩ := ha
  refine ⟨hK, tMethS (cl C0) m (spM K cl n M) E to t, fun ξ => ?_, se_meth so sa⟩
  obtain ⟨f, fd, ps, F, hm, hb⟩ := (D ξ).ex
  have c := (D ξ).cls
  rw [← hK ξ]
  exact pe_methX (po ξ) c hm F (hr ξ) hb (hx ξ) (pa ξ) (he ξ) (hpl ξ) (ht ξ)
theorem je_meth0 {k n : Nat} {C0 : String} {m : Str} {M : List D → RE} {pl : Sem Bool} (D : ∀ ξ, Mn (X ξ).prog (X ξ).w (X ξ).K (X ξ).mg (X ξ).base cl k C0 m n M) (hr : ∀ ξ, RoomG k (X ξ).A) (hx : ∀ ξ σ, PassesAt (L2.CX (X ξ).prog (X ξ).w) (X ξ) σ (E σ))
    (ho : JE K cl E X a ma)
    (ht : ∀ ξ, eval (.Call (.Attribute a m apos) [] [] pos) (X ξ).env = (do
      let ov ← eval a (X ξ).env
      standAt apos.atName
      let (f, first) ← holding [ov] (getMethod ov m pl)
      callWith pos f first (backTo pos (starEach [] (X ξ).env)) (backToKw pos (keywordEach [] (X ξ).env))) := by intro _; rfl) : JE K cl E X (.Call (.Attribute a m apos) [] [] pos) (mMeth C0 m n M ma mNil) := by
  obtain ⟨hK, to, po, so⟩ := ho
  refine ⟨hK, tMethS (cl C0) m (spM K cl n M) E to tNil, fun ξ => ?_, se_meth so ?_⟩
  · obtain ⟨f, fd, ps, F, hm, hb⟩ := (D ξ).ex
    have c := (D ξ).cls
    rw [← hK ξ]
    exact pe_methX0 (po ξ) c hm F (hr ξ) hb (hx ξ) (ht ξ)
  · intro σ H e A1 st Q k
    exact k [] H (Same.refl _) .nil
end

/-! ### properties -/
structure Pn (P : Program) (w : World) (K : PySem.W.Frag) (mg : Str → Option Value) (base : Heap) (cl : Cl) (k : Nat) (C : String) (f : Str) (M : List D → RE) : Prop where
  ex : ∃ (p g : Addr) (fd : FuncData) (ps : List Str), FnG P w K mg base (L2.CX P w) k g fd ps (spM K cl 1 M) ∧ PropOf K (cl C) f p g ∧ Binds K fd ps []
  cls : Cls K (cl C)
def mProp (C0 : String) (M : List D → RE) (mo : ME) : ME := fun e => match mo e with
  | .ok t => (match t.toD with
    | .ins C ks ds => if C = C0 then (match M [.ins C ks ds] with
      | .ok u => .ok u
      | _ => .bad) else .bad
    | _ => .bad)
  | r => r
section
variable {K : PySem.W.Frag} {cl : Cl} {E : L2.St → XK} {ι : Type} {X : ι → Cx} {a b : Expr} {ma mb : ME} {pos pos' apos cpos : Pos} {es : List Expr}
theorem je_prop {k : Nat} {C0 : String} {f : Str} {M : List D → RE} (D : ∀ ξ, Pn (X ξ).prog (X ξ).w (X ξ).K (X ξ).mg (X ξ).base cl k C0 f M) (hr : ∀ ξ, RoomG (k + 1) (X ξ).A)
    (ho : JE K cl E X a ma) (hb : ∀ ξ, attributeBase a f (X ξ).env (eval a (X ξ).env) = eval a (X ξ).env := by intro _; rfl) : JE K cl E X (.Attribute a f pos) (mProp C0 M ma) := by
  obtain ⟨hK, to, po, so⟩ := ho
  refine ⟨hK, tProp (cl C0) (spM K cl 1 M) [] (fun _ _ _ => False) to, fun ξ => ?_, fun σ H e A1 st Q k => ?_⟩
  · obtain ⟨p, g, fd, ps, F, hp, hbi⟩ := (D ξ).ex
    have c := (D ξ).cls
    rw [← hK ξ]
    exact pe_propG (po ξ) c hp F (hr ξ) hbi (fun _ _ _ _ h => by
      obtain ⟨_, _, _, _, _, _, _, _, _, _, _, _, z⟩ := h
      exact z) (hb ξ)
  · refine so.d st ?_
    unfold mProp at k
    cases q : ma e with
    | bad => rw [q] at k; exact k
    | exc x => rw [q] at k; exact k
    | ok t' =>
      rw [q] at k
      simp only at k
      intro v H2 u r
      cases qd : t'.toD with
      | ins C ks ds =>
        rw [qd] at k r
        simp only at k
        by_cases hC : C = C0
        · rw [if_pos hC] at k
          subst hC
          cases r with
          | ins h1 h2 h3 =>
            rename_i a0 dx fs
            refine ⟨a0, dx, fs, rfl, hd_le _ _ h1, [.ins C ks ds], A1, rfl, .cons (.ins h1 h2 h3) .nil, fun x hx => (st.1 x hx).same u, ?_⟩
            cases qm : M [.ins C ks ds] with
            | bad => rw [qm] at k; exact k.elim
            | exc x => rw [qm] at k; exact k.elim
            | ok w => rw [qm] at k; exact OkP.up u k
        · rw [if_neg hC] at k; exact k.elim
      | _ => rw [qd] at k; exact k.elim

/-! ### self.f = e, self owned -/
def putKs (f : Str) : List Str → List Str
  | [] => [f]
  | g :: r => if g = f then g :: r else g :: putKs f r
def putTs (f : Str) (t : T) : List Str → List T → List T
  | g :: ks, t0 :: ts => if g = f then t :: ts else t0 :: putTs f t ks ts
  | _, _ => [t]
theorem putF_keys (f : Str) (y : V) : ∀ fs : List (Str × V), (putF f y fs).map (·.1) = putKs f (fs.map (·.1))
  | [] => rfl
  | (g, x) :: r => by
    simp only [putF, List.map_cons, putKs]
    by_cases h : g = f
    · rw [if_pos h, if_pos h]; rfl
    · rw [if_neg h, if_neg h, List.map_cons, putF_keys f y r]
theorem putF_trees {G G' H H' : Hp} {f : Str} {y : V} {d : D} (s : Same G G') (ry : Rp K cl G' y d) : ∀ {fs : List (Str × V)} {ts : List T} {F : List Addr}, RTs K cl G H (fs.map (·.2)) ts F → F.Nodup → (∀ b ∈ F, H' b = H b) →
    ∃ F', RTs K cl G' H' ((putF f y fs).map (·.2)) (putTs f (.p d) (fs.map (·.1)) ts) F' ∧ F'.Nodup ∧ ∀ b ∈ F', b ∈ F
  | [], ts, F, h, nd, k => by
    cases h
    refine ⟨[] ++ [], .cons (.p ry) .nil, by simp, fun b hb => by simp at hb⟩
  | (g, x) :: r, ts, F, h, nd, k => by
    cases h with
    | cons h1 h2 =>
      rename_i t0 ts F1 F2
      have nd' := List.nodup_append.mp nd
      simp only [putF, List.map_cons, putTs]
      by_cases hg : g = f
      · rw [if_pos hg, if_pos hg]
        refine ⟨[] ++ F2, .cons (.p ry) (h2.mono s fun b hb => k b (List.mem_append_right _ hb)), by rw [List.nil_append]; exact nd'.2.1, fun b hb => List.mem_append_right _ hb⟩
      · rw [if_neg hg, if_neg hg]
        obtain ⟨F', q1, q2, q3⟩ := putF_trees s ry h2 nd'.2.1 fun b hb => k b (List.mem_append_right _ hb)
        refine ⟨F1 ++ F', .cons (h1.mono s fun b hb => k b (List.mem_append_left _ hb)) q1, List.nodup_append.mpr ⟨nd'.1, q2, fun x hx y hy => nd'.2.2 x hx y (q3 y hy)⟩, fun b hb => ?_⟩
        rcases List.mem_append.mp hb with z | z
        · exact List.mem_append_left _ z
        · exact List.mem_append_right _ (q3 b z)
def mSetF (C0 : String) (i : Nat) (f : Str) (m : ME) : MS := fun e => match e[i]? with
  | some (some (.i C ks ts tg)) => (match m e with
    | .ok t => if C = C0 ∧ ks.length < 1000 then .nx (e.set i (some (.i C (putKs f ks) (putTs f (.p t.toD) ks ts) tg))) else .bad
    | .exc x => .exc x e
    | .bad => .bad)
  | _ => .bad
theorem ss_fld {te : TE} {i : Nat} {C0 : String} {f : Str} (c0 : Cls K (cl C0)) (n0 : NoAttr K (cl C0) f) (s : SE K cl E te ma) : SS K cl E (sFld K (tVar i) te f) (mSetF C0 i f ma) := fun c σ H e hs D k => by
  obtain ⟨A, h⟩ := hs
  unfold mSetF at k
  cases q1 : e[i]? with
  | none => rw [q1] at k; exact k.elim
  | some o =>
    cases o with
    | none => rw [q1] at k; exact k.elim
    | some t0 =>
      rw [q1] at k
      cases t0 with
      | p d => exact k.elim
      | l ts => exact k.elim
      | k ks ts => exact k.elim
      | i C ks ts tg =>
        simp only at k
        refine s.d h.ste ?_
        cases q : ma e with
        | bad => rw [q] at k; exact k
        | exc x => rw [q] at k; exact fun cv d H2 s2 r => k σ H2 cv d ⟨A, h.up s2⟩ r
        | ok t =>
          rw [q] at k
          simp only at k
          intro v H2 s2 r
          have h2 := h.up s2
          obtain ⟨v0, F, A1, A2, g1, g2, g3, g4⟩ := h2.2.2.2.2.at h2.1 q1
          by_cases hC : C = C0 ∧ ks.length < 1000
          · rw [if_pos hC] at k
            obtain ⟨hC, hl⟩ := hC
            subst hC
            cases g3 with
            | i h5 h6 h7 h8 =>
              rename_i a dx fs F0
              subst h6
              have nd0 : (A1 ++ (a :: F0) ++ A2).Nodup := g2 ▸ h2.1
              have ndF : (a :: F0).Nodup := (List.nodup_append.mp (List.nodup_append.mp nd0).1).2.1
              have na : a ∉ F0 := (List.nodup_cons.mp ndF).1
              have nd1 := (List.nodup_cons.mp ndF).2
              have inA : ∀ b ∈ a :: F0, b ∈ A := fun b hb => by rw [g2]; exact List.mem_append_left _ (List.mem_append_right _ hb)
              refine ⟨.ref a, g1, a, cl C, dx, fs, rfl, h5, c0, n0, by simpa using hl, k σ _ ?_⟩
              -- the new tree: first its footprint
              obtain ⟨F', p1, p2, p3⟩ := putF_trees (K := K) (cl := cl) (G := hd H2 (c.B ++ A)) (G' := hd H2 (c.B ++ A)) (H := H2) (H' := upd H2 a (.ins (cl C) dx (putF f v fs))) (f := f) (Same.refl _) r h7 nd1 (fun b hb => upd_ne fun z => na (z ▸ hb))
              have sF : ∀ x ∈ a :: F', x ∈ a :: F0 := fun x hx => by
                rcases List.mem_cons.mp hx with rfl | hx
                · exact List.mem_cons_self
                · exact List.mem_cons_of_mem _ (p3 x hx)
              have ndn : (a :: F').Nodup := List.nodup_cons.mpr ⟨fun z => na (p3 a z), p2⟩
              have mA : a ∈ c.B ++ (A1 ++ (a :: F') ++ A2) := List.mem_append_right _ (List.mem_append_left _ (List.mem_append_right _ List.mem_cons_self))
              have s4 : Same (hd H2 (c.B ++ A)) (hd (upd H2 a (.ins (cl C) dx (putF f v fs))) (c.B ++ (A1 ++ (a :: F') ++ A2))) := by
                rw [hd_upd mA]
                exact hd_same (Same.refl _) fun b hb => .inl (sub_of g2 sF b hb)
              refine SRA.change h2 g2 g4 (fun b hb hn => upd_ne fun z => hb (z ▸ List.mem_cons_self)) ndn (fun b hb => .inl (sF b hb)) (.i upd_same (putF_keys f v fs) (p1.mono s4 fun _ _ => rfl) h8) (fun b hb => h2.2.1 b (inA b hb))
          · rw [if_neg hC] at k; exact k.elim
theorem js_fld {value : Expr} {i : Nat} {x f : Str} {C0 : String} (c0 : Cls K (cl C0)) (n0 : NoAttr K (cl C0) f) (hv : ∀ ξ, PE (X ξ) (.Name x pos') (tVar i)) (h : JE K cl E X value ma)
    (hs : ∀ ξ, swapsWith value (some (.Attribute (.Name x pos') f apos)) pos.line (X ξ).env = pure false := by intro _; rfl) :
    JS K cl E X (.Assign [.Attribute (.Name x pos') f apos] value pos) (mSetF C0 i f ma) := by
  obtain ⟨hK, t, p, s⟩ := h
  exact ⟨hK, _, fun ξ => by rw [← hK ξ]; exact ps_fld (hv ξ) (p ξ) (hs ξ), ss_fld c0 n0 s⟩
end
end Nd

namespace Nd
open PySem PySem.Spec PyProof.Rows L2

/-! ### __init__, and instances made -/
section
variable (K : PySem.W.Frag) (cl : Cl)
def NPost (E : XK) (Hc : Hp) (B : List Addr) (x : Addr) (Q : VK) : RE → Prop
  | .ok (.i C ks ts tg) => ∀ H2 F, Same Hc H2 → (∀ a ∈ F, Hc a = none) → F.Nodup → RT K cl (hd H2 (B ++ F)) H2 (.ref x) (.i C ks ts tg) F → Q .non H2
  | .exc e => ExP cl E Hc e
  | _ => False
def spI (n : Nat) (C : String) (I : Addr → List D → RE) : Sp := fun vs H Q E => ∃ (x dx : Addr) (Hc : Hp) (vs' : List V) (ds : List D) (B : List Addr), vs = .ref x :: vs' ∧ H = upd (upd Hc dx (.own x)) x (.ins (cl C) dx []) ∧ Hc x = none ∧ Hc dx = none ∧ dx ≠ x ∧ ds.length = n ∧
  RpA K cl (hd Hc B) vs' ds ∧ (∀ a ∈ B, Ow (Hc a)) ∧ NPost K cl E Hc B x Q (I x ds)
end
def mInit (N : Nat) (C : String) (m : MS) (x : Addr) : List D → RE := fun ds => match m (some (.i C [] [] (some x)) :: env0 (N - 1) ds) with
  | .nx e => (match e[0]? with
    | some (some (T.i C' ks ts tg)) => if tg = some x then .ok (.i C' ks ts tg) else .bad
    | _ => .bad)
  | .exc y _ => .exc y
  | _ => .bad
section
variable {P : Program} {w : World} {K : PySem.W.Frag} {mg : Str → Option Value} {base : Heap} {cl : Cl}
theorem init_ok {x qual : Str} {st : Stmt} {f : Addr} {fd : FuncData} {N ps : List Str} {p0 : Str} {k : Nat} {m : MS} {C : String} (F : Fun K x qual st f fd) (S : FnScope N (p0 :: ps) (defScope st)) (hN : 0 < N.length)
    (body : ∀ (cdv : Value) (A : Around) (outer : List PySem.Env) (s : Shared) (H : Hp) (E : XK), RoomG k (A.deeper (envOfC qual (defScope st) s.heap.objs.size f cdv)) →
      JSs K cl (fun _ => E) (fun _ : Unit => cxOf (L2.CX P w) P w K mg base N qual (defScope st) f cdv A outer s H E) (defBody st) m) :
    FnG P w K mg base (L2.CX P w) (k + 1) f fd (p0 :: ps) (spI K cl ps.length C (mInit N.length C m)) := by
  refine fnG_of F S (fun vs H Q E h => ?_) (fun cdv A outer s H vs Q E hr h => ?_)
  · obtain ⟨x, dx, Hc, vs', ds, B, rfl, _, _, _, _, hl, r, _⟩ := h
    rw [List.length_cons, List.length_cons, r.length, hl]
  obtain ⟨_, t, p, ss⟩ := body cdv A outer s H E hr
  refine ⟨t, p (), ?_⟩
  obtain ⟨x, dx, Hc, vs', ds, B, rfl, rfl, hx, hdx, hne, hl, r, o, k⟩ := h
  have s1 : Same Hc (upd (upd Hc dx (.own x)) x (.ins (cl C) dx [])) := (same_upd hdx).trans (same_upd (by rw [upd_ne (Ne.symm hne)]; exact hx))
  have e0 : L2.start N (.ref x :: vs') = some (.ref x) :: (vs'.map some ++ List.replicate (N.length - 1 - ds.length) none) := by
    unfold L2.start
    rw [List.map_cons, List.cons_append, List.length_cons, r.length, show N.length - (ds.length + 1) = N.length - 1 - ds.length by omega]
  have hB : ∀ a ∈ B ++ ([x] ++ []), a ∈ B ∨ Hc a = none := fun a ha => by
    rcases List.mem_append.mp ha with z | z
    · exact .inl z
    · rw [List.append_nil] at z; rw [List.mem_singleton.mp z]; exact .inr hx
  refine ss ⟨B, Hc, fun _ => True, fun _ _ _ _ => trivial, o⟩ (L2.start N (.ref x :: vs')) _ (some (.i C [] [] (some x)) :: env0 (N.length - 1) ds) ⟨[x] ++ [], by simp, fun a ha => by rw [List.append_nil] at ha; rw [List.mem_singleton.mp ha]; exact hx, s1, trivial, ?_⟩ _ ?_
  · rw [e0]
    exact .cons (.i (dx := dx) (fs := []) upd_same rfl .nil fun b hb => by cases hb; rfl) (rsl_start _ (r.mono (hd_same s1 hB)))
  · unfold mInit at k
    cases q : m (some (.i C [] [] (some x)) :: env0 (N.length - 1) ds) with
    | bad => rw [q] at k; exact k
    | bk e => rw [q] at k; exact k.elim
    | ct e => rw [q] at k; exact k.elim
    | rt t => rw [q] at k; exact k.elim
    | exc y e =>
      rw [q] at k
      rintro σ H' cv d ⟨A', nd, fr, s', _, _⟩ er
      exact k cv d H' s' er
    | nx e =>
      rw [q] at k
      simp only at k
      rintro σ H' ⟨A', nd, fr, s', _, rs⟩
      cases q0 : e[0]? with
      | none => rw [q0] at k; exact k.elim
      | some u =>
        cases u with
        | none => rw [q0] at k; exact k.elim
        | some t0 =>
          cases t0 with
          | p d => rw [q0] at k; exact k.elim
          | l ts => rw [q0] at k; exact k.elim
          | k ks ts => rw [q0] at k; exact k.elim
          | i C' ks ts tg =>
            rw [q0] at k
            simp only at k
            by_cases ht : tg = some x
            · rw [if_pos ht] at k
              subst ht
              obtain ⟨v, F0, A1, A2, _, h2, h3, _⟩ := rs.at nd q0
              have hv : v = .ref x := by
                cases h3 with
                | i _ _ _ h => rw [h x rfl]
              subst hv
              have nd0 : (A1 ++ F0 ++ A2).Nodup := h2 ▸ nd
              have sub : ∀ b ∈ F0, b ∈ A' := fun b hb => by rw [h2]; exact List.mem_append_left _ (List.mem_append_right _ hb)
              exact k H' F0 s' (fun a ha => fr a (sub a ha)) (List.nodup_append.mp (List.nodup_append.mp nd0).1).2.1 (h3.mono (hd_same (Same.refl _) fun a ha => (List.mem_append.mp ha).elim (fun z => .inl (List.mem_append_left _ z)) fun z => .inl (List.mem_append_right _ (sub a z))) fun _ _ => rfl)
            · rw [if_neg ht] at k; exact k.elim
end
def tMakeS (C : Addr) (sp : Sp) (E : L2.St → XK) (t : TA) : TE := fun σ H Q => t σ H fun vs H1 => ∀ x dx, H1 x = none → H1 dx = none → dx ≠ x → sp (.ref x :: vs) (upd (upd H1 dx (.own x)) x (.ins C dx [])) (fun v H2 => v = .non ∧ Q (.ref x) H2) (E σ)
section
variable {X : Cx} {CX : CXT} {k : Nat} {f C : Addr} {fd : FuncData} {ps : List Str} {sp : Sp} {E : L2.St → XK} {x : Str} {p pos : Pos} {e : Expr} {es : List Expr} {t : TA}
theorem pe_makeX (M : Mk X.K C f) (F : FnG X.prog X.w X.K X.mg X.base CX k f fd ps sp) (hr : RoomG (k + 1) X.A) (hg : Gl X x) (hm : X.mg x = some (.ref C)) (hb : Binds X.K fd ps []) (hx : ∀ (σ : L2.St) (pins : List (Addr × Obj)) (H1 H : Hp) (s1 s : Shared) (e : Value) (s' : Shared), Inv X pins σ H1 s1 → Same H1 H → Inv X pins σ H s → CX X.stack H s (E σ) e s' → X.xe e s')
    (ha : PA X (e :: es) t) (hdb : (x == ("__debug__" : Str)) = false) (he : starEach (e :: es) X.env = (false, eval e X.env) :: starEach es X.env) (hpl : (backTo pos (starEach es X.env)).any (·.1) = false) :
    PE X (.Call (.Name x p) (e :: es) [] pos) (tMakeS C sp E t) := by
  constructor
  intro pins s σ H Q I h
  refine wpAny_Call_Name_kw (ld_glob I hg hm ?_ hdb)
  refine PySem.W.callWith_K (h₀ := X.base) I.ok.mod.kin M.kp (thn (ha.run pos pins s σ H _ I h) fun us s1 ⟨vs, H1, I1, r, q⟩ => ⟨I1.kIn, ?_⟩) he hpl
  have I2 := Inv.made (C := C) I1
  have f1 := I1.hok.fresh (Nat.le_succ s1.heap.objs.size)
  have f2 := I1.hok.fresh (Nat.le_refl s1.heap.objs.size)
  have ne : s1.heap.objs.size ≠ s1.heap.objs.size + 1 := Nat.ne_of_lt (Nat.lt_succ_self _)
  have hq := q (s1.heap.objs.size + 1) s1.heap.objs.size f1 f2 ne
  have r2 : Vals (V.ref (s1.heap.objs.size + 1) :: vs) (Value.ref (s1.heap.objs.size + 1) :: us) := .cons rfl r
  have hl : (Value.ref (s1.heap.objs.size + 1) :: us).length = ps.length := by
    rw [← F.len _ _ _ _ hq]; exact r2.length.symm
  have b := hb { s1 with heap := (s1.heap.push PySem.W.emptyDict).push (PySem.W.instObj C s1.heap.objs.size) } (Value.ref (s1.heap.objs.size + 1) :: us) I2.kIn (by rw [List.append_nil]; exact hl)
  rw [List.append_nil] at b
  refine wpAny_call (make_map (f := f) I1.kIn M.makes M.init (beq_iff_eq.mp M.fn) (codeAny_mono (F.run _ X.stack _ _ ⟨Value.ref (s1.heap.objs.size + 1) :: us, []⟩ (Value.ref (s1.heap.objs.size + 1) :: us) _ _ (E σ) (hr.make C us) (I2.env0.make C us []) b r2 hq) fun r s' hq' => ?_))
  have sm : Same H1 (upd (upd H1 s1.heap.objs.size (.own (s1.heap.objs.size + 1))) (s1.heap.objs.size + 1) (.ins C s1.heap.objs.size [])) := (same_upd f2).trans (same_upd (by rw [upd_ne (Ne.symm ne)]; exact f1))
  cases r with
  | error e => exact hx σ pins H1 _ _ _ e s' I1 sm I2 hq'
  | ok fl =>
    cases fl with
    | ret u =>
      obtain ⟨v, H', I3, rv, ev, q3⟩ := I2.after hq'
      cases ev
      exact ⟨rv, ⟨V.ref (s1.heap.objs.size + 1), H', I3, rfl, q3⟩⟩
    | next => exact False.elim hq'
    | brk => exact False.elim hq'
    | cont => exact False.elim hq'
end
/-- a class's own making: its __init__ keeps to its mirror -/
structure Kn (P : Program) (w : World) (K : PySem.W.Frag) (mg : Str → Option Value) (base : Heap) (cl : Cl) (k : Nat) (x : Str) (C : String) (n : Nat) (I : Addr → List D → RE) : Prop where
  ex : ∃ (f : Addr) (fd : FuncData) (ps : List Str), FnG P w K mg base (L2.CX P w) k f fd ps (spI K cl n C I) ∧ Mk K (cl C) f ∧ mg x = some (.ref (cl C)) ∧ Binds K fd ps []
open Classical in
noncomputable def mMake (n : Nat) (I : Addr → List D → RE) (ms : Env → RL) : ME := fun e => match ms e with
  | .ok ds => if ds.length = n then (match I 0 ds with
    | .ok (.i C ks ts _) => if ∀ x, I x ds = .ok (.i C ks ts (some x)) then .ok (.i C ks ts none) else .bad
    | .exc y => if ∀ x, I x ds = .exc y then .exc y else .bad
    | _ => .bad) else .bad
  | .exc x => .exc x
  | .bad => .bad
section
variable {K : PySem.W.Frag} {cl : Cl} {E : L2.St → XK} {ι : Type} {X : ι → Cx} {a b : Expr} {ma mb : ME} {pos pos' apos cpos : Pos} {es : List Expr}
theorem se_make {t : TA} {ms : Env → RL} {C0 : String} {n : Nat} {I : Addr → List D → RE} (sa : SA K cl E t ms) : SE K cl E (tMakeS (cl C0) (spI K cl n C0 I) E t) (mMake n I ms) := fun σ H e A1 st Q k => by
  refine sa σ H e A1 st _ ?_
  unfold mMake at k
  cases q : ms e with
  | bad => rw [q] at k; exact k
  | exc x => rw [q] at k; exact k
  | ok ds =>
    rw [q] at k
    simp only at k
    intro vs H1 u r x dx hx hdx hne
    by_cases hl : ds.length = n
    · rw [if_pos hl] at k
      refine ⟨x, dx, H1, vs, ds, A1, rfl, rfl, hx, hdx, hne, hl, r, fun a ha => (st.1 a ha).same u, ?_⟩
      cases qi : I 0 ds with
      | bad => rw [qi] at k; exact k.elim
      | exc y =>
        rw [qi] at k
        simp only at k
        by_cases hI : ∀ x, I x ds = .exc y
        · rw [if_pos hI] at k
          rw [hI x]
          exact ExP.up u k
        · rw [if_neg hI] at k; exact k.elim
      | ok t0 =>
        rw [qi] at k
        cases t0 with
        | p d => exact k.elim
        | l ts => exact k.elim
        | k ks ts => exact k.elim
        | i C ks ts tg =>
          simp only at k
          by_cases hI : ∀ x, I x ds = .ok (.i C ks ts (some x))
          · rw [if_pos hI] at k
            rw [hI x]
            intro H2 F s2 fr nd rt
            refine ⟨rfl, OkP.up u k (.ref x) H2 F s2 fr nd ?_⟩
            cases rt with
            | i h1 h2 h3 h4 => exact .i h1 h2 h3 fun b hb => by cases hb
          · rw [if_neg hI] at k; exact k.elim
    · rw [if_neg hl] at k; exact k.elim
theorem je_make {k n : Nat} {x : Str} {p : Pos} {C0 : String} {I : Addr → List D → RE} {ms : Env → RL} (D : ∀ ξ, Kn (X ξ).prog (X ξ).w (X ξ).K (X ξ).mg (X ξ).base cl k x C0 n I) (hr : ∀ ξ, RoomG (k + 1) (X ξ).A) (hg : ∀ ξ, Gl (X ξ) x) (hx : ∀ ξ σ, PassesAt (L2.CX (X ξ).prog (X ξ).w) (X ξ) σ (E σ))
    (ha : JA K cl E X (a :: es) ms) (he : ∀ ξ, starEach (a :: es) (X ξ).env = (false, eval a (X ξ).env) :: starEach es (X ξ).env := by intro _; rfl) (hpl : ∀ ξ, (backTo pos (starEach es (X ξ).env)).any (·.1) = false := by intro _; rfl)
    (hdb : (x == ("__debug__" : Str)) = false := by decide) : JE K cl E X (.Call (.Name x p) (a :: es) [] pos) (mMake n I ms) := by
  obtain ⟨hK, t, pa, sa⟩ := ha
  refine ⟨hK, tMakeS (cl C0) (spI K cl n C0 I) E t, fun ξ => ?_, se_make sa⟩
  obtain ⟨f, fd, ps, F, M, hm, hb⟩ := (D ξ).ex
  rw [← hK ξ]
  exact pe_makeX M F (hr ξ) (hg ξ) hm hb (fun σ pins _ H _ s e s' _ _ I h => hx ξ σ pins H s e s' I h) (pa ξ) hdb (he ξ) (hpl ξ)
end
/-- a statement of a class's body -/
def clsS : Stmt → Nat → Stmt
  | .ClassDef _ _ _ body _ _ _ _ _ _ _, j => body.getD j (.Pass ⟨0, 0, 0, 0⟩)
  | _, _ => .Pass ⟨0, 0, 0, 0⟩

section
variable {K : PySem.W.Frag} {cl : Cl} {E : L2.St → XK} {ι : Type} {X : ι → Cx} {a b : Expr} {ma mb : ME} {pos pos' : Pos}
/-- {} -/
theorem je_dnew (hK : ∀ ξ, (X ξ).K = K) : JE K cl E X (.Dict [] [] pos) (fun _ => .ok (.k [] [])) :=
  ⟨hK, _, fun _ => pe_dnewK, fun σ H e A1 st Q k p hp => k (.ref p) _ [p] (same_upd hp) (fun a ha => by rw [List.mem_singleton.mp ha]; exact hp) (by simp) (.k upd_same rfl .nil)⟩
end
end Nd

namespace Nd
open PySem PySem.Spec PyProof.Rows L2

/-! ### repr of a list of data -/
theorem repr_list {prog : Program} {w : World} {A : Around} {E : Value → Shared → Prop} {s : Shared} {v : Value} {xs : List PyData} {as : List Addr} {Q : Value → Shared → Prop} (r : Reads s.heap v (.list xs) as) (hs : PyData.showableAll xs = true) (hd : PyData.canLayAll0 xs = true)
    (hz : (listText (PyData.shownAll xs)).length ≤ sizeLine) (hg : A.guards = some []) (hu : A.units + PyData.depthAll xs + 3 < cLine)
    (hQ : ∀ h' u tk, (∀ b o, s.heap.get? b = some o → h'.get? b = some o) → Q (.str (listText (PyData.shownAll xs)) u) { s with heap := h', toks := tk }) : wpAny (model prog w) A (call (.builtin "repr") [v]) Q E s := by
  have r0 := r
  cases r with
  | list h1 h2 h3 h4 =>
    rename_i a o vs n as'
    obtain ⟨bs, hb, hk⟩ := ReprAllK.of_readsAll (prog := prog) (w := w) h4 hs (fun hx => by rw [PyData.hasDictAll_of_canLayAll xs hd] at hx; cases hx) (fun t ht => Nat.le_trans (listText_mem_le ht) hz)
    have hna : a ∉ bs := not_mem_of_deeper r0 (by simp only [PyData.depth]; omega) hb
    refine call_repr_slot (by omega) ⟨_, h1, h2⟩ F.slot_list_repr.toG ?_
    obtain ⟨l⟩ := vs
    cases l with
    | nil =>
      have h4' : ReadsAll s.heap [] xs _ := h4
      cases h4'
      simp only [PyData.shownAll, listText_nil] at hQ
      exact call_list_repr_empty ⟨_, h1, h2⟩ h1 h3 ⟨_, _, rfl, hQ s.heap _ _ fun _ _ e => e⟩
    | cons x l =>
      refine call_list_reprK (A := A.in1) (g := []) (h₀ := s.heap) h1 h2 h3 hna (by simpa using hk.length_eq) (fun i y e => hk.item i y (by simpa using e)) hg (fun b _ => Clear.nil b) (by show A.units + 1 + _ < cLine; omega) (fun _ _ e => e) (fun h' u tk hk' => ⟨_, _, rfl, hQ h' u tk hk'⟩) hz

def rReprL (K : PySem.W.Frag) : List V → Hp → VK → Prop := fun vs H Q => ∃ (v : V) (xs : List PyData), vs = [v] ∧ Dp K H v (.list xs) ∧ PyData.showableAll xs = true ∧ PyData.canLayAll0 xs = true ∧ (listText (PyData.shownAll xs)).length ≤ sizeLine ∧ PyData.depthAll xs ≤ 60 ∧ Q (.str (listText (PyData.shownAll xs))) H
theorem call_reprL {X : Cx} {k : Nat} (hr : RoomG k X.A) : CallR X (.builtin "repr") (rReprL X.K) := by
  intro pins s σ H vs us Q I r h
  obtain ⟨v, xs, rfl, hd, hs, hc, hz, hdp, q⟩ := h
  obtain ⟨u, rfl, ru⟩ := vals1 r
  obtain ⟨as, rd⟩ := Dp.reads I (.list xs) v u hd ru
  have := hr.r.un
  exact repr_list rd hs hc hz hr.g (by omega) fun h' t tk kp => ⟨.str _, H, I.kept (t' := tk) kp, ⟨t, rfl⟩, q⟩
def fRepr : List D → Option T
  | [.lst ds] => match D.toPs ds with
    | some ps => if PyData.showableAll ps = true ∧ PyData.canLayAll0 ps = true ∧ (listText (PyData.shownAll ps)).length ≤ sizeLine ∧ PyData.depthAll ps ≤ 60 then some (.p (.str (listText (PyData.shownAll ps)))) else none
    | none => none
  | _ => none
section
variable {K : PySem.W.Frag} {cl : Cl} {E : L2.St → XK} {ι : Type} {X : ι → Cx} {a b : Expr} {pos pos' : Pos}
theorem sem_repr : CSem K cl (rReprL K) fRepr := by
  intro H A o vs ds t r e Q k
  unfold fRepr at e
  split at e
  · rename_i ds
    split at e
    · rename_i ps hp
      split at e
      · rename_i h
        obtain ⟨h1, h2, h3, h4⟩ := h
        cases e
        obtain ⟨v1, rfl, r1⟩ := r.one
        exact ⟨v1, ps, rfl, dp_of (r1.mono hd_le) (by simp only [D.toP, hp, Option.map_some]), h1, h2, h3, h4, OkP.pure k (Same.refl _) (.str _)⟩
      · cases e
    · cases e
  · cases e
theorem je_repr {k : Nat} {p : Pos} {ms : Env → RL} (hr : ∀ ξ, RoomG k (X ξ).A) (hg : ∀ ξ, Gl (X ξ) "repr") (hm : ∀ ξ, (X ξ).mg "repr" = none) (ha : JA K cl E X [a] ms) (he : ∀ ξ, starEach [a] (X ξ).env = (false, eval a (X ξ).env) :: starEach [] (X ξ).env := by intro _; rfl) :
    JE K cl E X (.Call (.Name "repr" p) [a] [] pos) (mCB fRepr ms) :=
  je_cb (fun ξ => by rw [← ha.1 ξ]; exact call_reprL (hr ξ)) sem_repr hg hm (by decide +kernel) ha (by decide) (by decide) he (fun _ => rfl)
end
end Nd

namespace Nd
open PySem PySem.Spec PyProof.Rows L2

/-! ### xs[lo:hi:k], k a number above nought -/
def pickIx (n : Nat) (lo hi st : Option Int) : List Nat := sliceRange (sliceBounds lo hi st n).1 (sliceBounds lo hi st n).2.1 (sliceBounds lo hi st n).2.2
def pickL {α : Type} (xs : List α) (lo hi st : Option Int) : List α := (pickIx xs.length lo hi st).filterMap (xs[·]?)
theorem pick_eq (items : List Value) (lo hi st : Option Int) : slicePick items.toArray lo hi st = (pickL items lo hi st).toArray := by
  unfold slicePick pickL pickIx
  simp
theorem vals_pick {xs : List V} {its : List Value} (r : Vals xs its) : ∀ ix : List Nat, Vals (ix.filterMap (xs[·]?)) (ix.filterMap (its[·]?))
  | [] => .nil
  | i :: ix => by
    rw [List.filterMap_cons, List.filterMap_cons]
    cases q : xs[i]? with
    | none =>
      have : its[i]? = none := by
        rw [List.getElem?_eq_none_iff] at q ⊢
        rw [← r.length]; exact q
      rw [this]
      exact vals_pick r ix
    | some v =>
      obtain ⟨u, h1, h2⟩ := r.get q
      rw [h1]
      exact .cons h2 (vals_pick r ix)
theorem rpA_pick {K : PySem.W.Frag} {cl : Cl} {H : Hp} {vs : List V} {ds : List D} (r : RpA K cl H vs ds) : ∀ ix : List Nat, RpA K cl H (ix.filterMap (vs[·]?)) (ix.filterMap (ds[·]?))
  | [] => .nil
  | i :: ix => by
    rw [List.filterMap_cons, List.filterMap_cons]
    cases q : ds[i]? with
    | none =>
      have : vs[i]? = none := by
        rw [List.getElem?_eq_none_iff] at q ⊢
        rw [r.length]; exact q
      rw [this]
      exact rpA_pick r ix
    | some d =>
      obtain ⟨v, h1, h2⟩ := r.get q
      rw [h1]
      exact .cons h2 (rpA_pick r ix)
def tSlK (K : PySem.W.Frag) (te : TE) (tl th : L2.St → Hp → (Option Int → Hp → Prop) → Prop) (k : Int) : TE := fun σ H Q => te σ H fun x H1 => tl σ H1 fun lo H2 => th σ H2 fun hi H3 => ∃ a xs, x = .ref a ∧ SqL K H3 a xs ∧ (pickIx xs.length lo hi (some k)).length ≤ sizeLine ∧ ∀ p, H3 p = none → Q (.ref p) (upd H3 p (.lst (pickL xs lo hi (some k))))
theorem pe_slK {X : Cx} {e : Expr} {te : TE} {lo hi : Option Expr} {tl th : L2.St → Hp → (Option Int → Hp → Prop) → Prop} {k : Int} {j : Nat} {p2 p3 pos : Pos} (hk : k ≠ 0) (he : PE X e te) (hl : PO X lo tl) (hu : PO X hi th) : PE X (.Subscript e (.Slice lo hi (some (.Constant (.int k) j p3)) p2) pos) (tSlK X.K te tl th k) := by
  constructor
  intro pins s σ H Q I h
  refine Subscript_ (thn (he.run pins s σ H _ I h) fun v s1 ⟨x, H1, I1, r1, q1⟩ => ?_)
  refine wpAny_Slice (thn (hl.run pins s1 σ H1 _ I1 q1) fun vl s2 ⟨l, H2, I2, pl, q2⟩ => thn (hu.run pins s2 σ H2 _ I2 q2) fun vu s3 ⟨u, H3, I3, pu, q3⟩ => ?_)
  have hst : PO X (some (.Constant (.int k) j p3)) (tPart (tC (.int k))) := po_some pe_int
  refine thn (hst.run pins s3 σ H3 (fun o H4 => o = some k ∧ H4 = H3) I3 ⟨k, rfl, rfl, rfl⟩) fun vs s4 ⟨o, H4, I4, ps, eo, e4⟩ => ?_
  cases eo
  cases e4
  obtain ⟨a, xs, ex, hx, hn, q⟩ := q3
  cases ex
  cases (show v = Value.ref a from r1)
  have I5 : Inv X pins σ H3 { s4 with heap := s4.heap.push { cls := .type "slice", data := .fields #[vl, vu, vs] } } := I4.kept (t' := s4.toks) fun b ob z => Heap.get?_push_of_some _ z
  obtain ⟨its, r, ht, hz⟩ := I5.list hx
  have hlen := r.length
  show wpAny (model X.prog X.w) X.A (subscriptTail e (.Slice lo hi (some (.Constant (.int k) j p3)) p2) (.ref a) (.ref s4.heap.objs.size)) (EP X pins σ Q) X.xe { s4 with heap := s4.heap.push { cls := .type "slice", data := .fields #[vl, vu, vs] } }
  refine tail_any (ops := [.ref a, .ref s4.heap.objs.size]) ht.isList.typeIs (PySem.slot_list_getitem.lookup) ?_ (by with_unfolding_all rfl)
  refine wpAny_getItem_list_slice ht.isList (Heap.IsSliceOf.new _ vl vu vs) pl pu ps (by simpa using hk) ?_ (by rw [List.size_toArray]; omega)
  rw [pick_eq]
  refine ⟨.ref _, _, I5.laid (t' := s4.toks) (o := .lst (pickL xs l u (some k))) (fun b ob z => Heap.get?_push_of_some _ z) (Nat.le_refl _) ?_, rfl, q _ (I5.hok.fresh (Nat.le_refl _))⟩
  refine ⟨?_, _, 0, ?_, Heap.get?_push_size _ rfl⟩
  · exact Nat.le_trans (List.length_filterMap_le _ _) hn
  · unfold pickL
    rw [← hlen]
    exact vals_pick r _

def dSlK (k : Int) (d : D) (lo hi : Option Int) : Option T := match d with
  | .lst xs => if (pickIx xs.length lo hi (some k)).length ≤ sizeLine then some (.l ((pickL xs lo hi (some k)).map T.p)) else none
  | _ => none
def mSlK (k : Int) (m : ME) (lo hi : Env → RO) : ME := fun e => match m e with
  | .ok t => (match lo e with
    | .ok l => (match hi e with
      | .ok h => (match dSlK k t.toD l h with
        | some u => .ok u
        | none => .bad)
      | .exc x => .exc x
      | .bad => .bad)
    | .exc x => .exc x
    | .bad => .bad)
  | r => r
section
variable {K : PySem.W.Frag} {cl : Cl} {E : L2.St → XK} {ι : Type} {X : ι → Cx} {a b : Expr} {ma : ME} {pos pos' : Pos}
theorem je_slK {lo hi : Option Expr} {ml mh : Env → RO} {k : Int} {j : Nat} {p2 p3 : Pos} (h : JE K cl E X a ma) (hl : JO K cl E X lo ml) (hh : JO K cl E X hi mh) (hk : k ≠ 0) : JE K cl E X (.Subscript a (.Slice lo hi (some (.Constant (.int k) j p3)) p2) pos) (mSlK k ma ml mh) := by
  obtain ⟨hK, t, p, s⟩ := h
  obtain ⟨_, t1, p1, s1⟩ := hl
  obtain ⟨_, t2, p2, s2⟩ := hh
  refine ⟨hK, tSlK K t t1 t2 k, fun ξ => by rw [← hK ξ]; exact pe_slK hk (p ξ) (p1 ξ) (p2 ξ), fun σ H e A1 st Q kk => ?_⟩
  refine s.d st ?_
  unfold mSlK at kk
  cases q : ma e with
  | bad => rw [q] at kk; exact kk
  | exc x => rw [q] at kk; exact kk
  | ok t' =>
    rw [q] at kk
    intro v H1 u1 r1
    refine s1 σ H1 e A1 (st.up u1) _ ?_
    cases ql : ml e with
    | bad => rw [ql] at kk; exact kk
    | exc x => rw [ql] at kk; exact ExP.up u1 kk
    | ok l =>
      rw [ql] at kk
      intro H2 u2
      refine s2 σ H2 e A1 ((st.up u1).up u2) _ ?_
      cases qh : mh e with
      | bad => rw [qh] at kk; exact kk
      | exc x => rw [qh] at kk; exact ExP.up (u1.trans u2) kk
      | ok h =>
        rw [qh] at kk
        simp only at kk
        intro H3 u3
        have r3 := r1.mono (hd_same (A := A1) (A' := A1) (u2.trans u3) fun a ha => .inl ha)
        have u := (u1.trans u2).trans u3
        cases qd : dSlK k t'.toD l h with
        | none => rw [qd] at kk; exact kk.elim
        | some w =>
          rw [qd] at kk
          unfold dSlK at qd
          split at qd
          · rename_i xs et
            split at qd
            · rename_i hn
              cases qd
              rw [et] at r3
              cases r3 with
              | lst h1 h2 =>
                have hl := h2.length
                refine ⟨_, _, rfl, sqL_hid h1, by rw [hl]; exact hn, fun p hp => OkP.newLp kk u hp ?_⟩
                unfold pickL
                rw [hl]
                exact rpA_pick h2 _
            · cases qd
          · cases qd
end
end Nd

namespace Nd
open PySem PySem.Spec PyProof.Rows L2

/-! ### the top: the law is called where no guard stands -/
section
variable {P : Program} {w : World} {K : PySem.W.Frag} {mg mb : Str → Option Value} {CX : CXT} {k : Nat} {fa a : Addr} {fd : FuncData} {x : Str} {sp : Sp} {s₁ : Shared} {vs : List Value} {ns : List Int}
/-- the ground of the call: the heap but for the script -/
theorem ground_mod {H : Hp} (KX : K.In s₁.heap) (hns : s₁.heap.Ns mainGlobals mg) (hb : s₁.heap.Ns builtinsNs mb) (hbb : ∀ x : Str, x ≠ "__name__" → mb x = bootBuiltins x) (hlim : s₁.heap.NoLimit)
    (ha : s₁.heap.get? a = some { cls := .type "list", data := .seq vs.toArray }) (hA : ∀ b, H b ≠ none → b = a) (hK : H a ≠ none → K.lookup a = none) :
    K.In (hidT s₁.heap H) ∧ (hidT s₁.heap H).Ns mainGlobals mg ∧ Mod K mg (hidT s₁.heap H) := by
  have nd : ∀ {b : Addr} {o : Obj} {es : Array DictEntry} {ep : Nat}, s₁.heap.get? b = some o → o.data = .dict es ep → H b = none := by
    intro b o es ep e d
    by_cases q : H b = none
    · exact q
    · have := hA b q
      subst this
      rw [ha] at e
      cases e
      have z : Data.seq vs.toArray _ = Data.dict es ep := d
      cases z
  have ns' : ∀ {b : Addr} {m : Str → Option Value}, s₁.heap.Ns b m → (hidT s₁.heap H).Ns b m := fun ⟨o, es, ep, e, d, r⟩ => ⟨o, es, ep, hidT_get e (nd e d), d, r⟩
  have kin : K.In (hidT s₁.heap H) := fun b o e => hidT_get (KX b o e) (by
    by_cases q : H b = none
    · exact q
    · have := hA b q
      subst this
      rw [hK q] at e
      cases e)
  exact ⟨kin, ns' hns, kin, ns' hns, ⟨mb, ns' hb, hbb⟩, let ⟨mc, h1, h2⟩ := hlim; ⟨mc, ns' h1, h2⟩⟩
theorem law_callG (KX : K.In s₁.heap) (hns : s₁.heap.Ns mainGlobals mg) (hb : s₁.heap.Ns builtinsNs mb) (hbb : ∀ x : Str, x ≠ "__name__" → mb x = bootBuiltins x) (hlim : s₁.heap.NoLimit) (hg : s₁.gens = #[])
    (ha : s₁.heap.get? a = some { cls := .type "list", data := .seq vs.toArray }) (hi : IntsAre vs ns) (hl : ns.length ≤ sizeLine) (hr : RoomG k callerA)
    (F : ∀ base : Heap, K.In base → base.Ns mainGlobals mg → FnG P w K mg base CX k fa fd [x] sp) (hbind : ∀ (s : Shared) (u : Value), BindsTo s fd ⟨[u], []⟩ [(x, u)])
    (hsp : ∀ H : Hp, SqL K H a (ns.map V.int) → sp [.ref a] H (fun v _ => v = .bl true) fun _ _ _ => False)
    (hCX : ∀ H e s', CX [] H s₁ (fun _ _ _ => False) e s' → False) :
    codeAny (model P w) callerA (.call (.ref fa) ⟨[.ref a], []⟩) (fun r s' => r = .ok (.ret (.bool true)) ∧ OldK s₁.heap s'.heap ∧ s'.os = s₁.os ∧ AllBare s'.gens) s₁ := by
  have rv := vals_ints hi
  have core : ∀ H : Hp, SqL K H a (ns.map V.int) → HOk P w H s₁.heap → (∀ b, H b ≠ none → b = a) → (H a ≠ none → K.lookup a = none) → (∀ u, H a = some u → ∃ o xs, u = .frz o (.lst xs)) →
      codeAny (model P w) callerA (.call (.ref fa) ⟨[.ref a], []⟩) (fun r s' => r = .ok (.ret (.bool true)) ∧ OldK s₁.heap s'.heap ∧ s'.os = s₁.os ∧ AllBare s'.gens) s₁ := by
    intro H hS hok hA hK hO
    obtain ⟨g1, g2, g3⟩ := ground_mod KX hns hb hbb hlim ha hA hK
    have e0 : Env0 P w K mg (hidT s₁.heap H) callerA [] s₁ H := ⟨rfl, g3, fun b o e => of_hidT e, Nat.le_of_eq (hidT_size _ _), trivial, fun b z => absurd (show b ∈ ([] : List Addr) from z) (by simp), hok, .of_eq hg⟩
    refine codeAny_mono ((F _ g1 g2).run callerA [] s₁ H ⟨[.ref a], []⟩ [.ref a] [.ref a] _ _ hr e0 (hbind s₁ (.ref a)) (.cons rfl .nil) (hsp H hS)) fun z s' h => ?_
    cases z with
    | error e => exact (hCX H e s' h).elim
    | ok fl =>
      cases fl with
      | next => exact h.elim
      | brk => exact h.elim
      | cont => exact h.elim
      | ret u =>
        obtain ⟨v, H', os, bare, un, hok', r', q⟩ := h
        cases (show v = .bl true from q)
        cases (show u = Value.bool true from r')
        refine ⟨rfl, OldK.of_keep fun b o e => ?_, os, bare⟩
        by_cases q : H b = none
        · exact un.keep b o e q (by intro z; exact absurd (show b ∈ ([] : List Addr) from z) (by simp)) (by simp)
        · have := hA b q
          subst this
          cases q2 : H b with
          | none => exact absurd q2 q
          | some u =>
            obtain ⟨ob, xs, rfl⟩ := hO u q2
            have e1 := (hok b _ q2).1
            have e2 := (hok' b _ (un.frzs b ob _ q2)).1
            rw [e] at e1
            cases e1
            exact e2
  cases hk : K.lookup a with
  | some o =>
    have e := KX a o hk
    rw [ha] at e
    cases e
    refine core (fun _ => none) (.inr ⟨_, vs.toArray, _, hk, rfl, rfl, rfl, by rw [List.size_toArray, hi.length]; exact hl, by simpa using rv⟩) (fun b u z => by cases (show (none : Option HO) = some u from z)) (fun b z => absurd rfl z) (fun z => absurd rfl z) fun u z => by cases (show (none : Option HO) = some u from z)
  | none =>
    have hn : ∀ b, b ≠ a → (upd (fun _ => none) a (.frz { cls := .type "list", data := .seq vs.toArray } (.lst (ns.map V.int)))) b = none := fun b z => upd_ne z
    refine core (upd (fun _ => none) a (.frz { cls := .type "list", data := .seq vs.toArray } (.lst (ns.map V.int)))) (.inl (.inr ⟨_, upd_same⟩)) (fun b u z => ?_) (fun b z => ?_) (fun _ => hk) (fun u z => ?_)
    · by_cases q : b = a
      · subst q
        rw [upd_same] at z
        cases z
        exact ⟨ha, by rw [List.length_map]; exact hl, vs, _, rv, ha⟩
      · rw [hn b q] at z; cases z
    · by_cases q : b = a
      · exact q
      · exact absurd (hn b q) z
    · rw [upd_same] at z
      cases z
      exact ⟨_, _, rfl⟩
end
theorem walk_ofG {l : PySem.W.OpenLaw} {n k : Nat} {q : Program} {loose : List Str} {XP : (Str → Option Value) → Heap → Prop} {YP : World → Heap → Prop} {d : PySem.DefRec} {K : Params → PySem.W.Frag} {CX : World → CXT} {sp : World → Sp} {x : Str}
    (hn : l.most = some n) (hn2 : n ≤ sizeLine) (hdf : d.params.defaults = []) (hr : RoomG k callerA)
    (hY : ∀ (w : World) (h : Heap), YP w h → (K w.params).In h)
    (F : ∀ (w : World) (mg : Str → Option Value) (fa : Addr) (h : Heap), (K w.params).In h → h.Ns mainGlobals mg → mg d.name = some (.ref fa) →
      ∃ fd : FuncData, (∀ (s : Shared) (u : Value), BindsTo s fd ⟨[u], []⟩ [(x, u)]) ∧
        ∀ base : Heap, (K w.params).In base → base.Ns mainGlobals mg → FnG l.prog w (K w.params) mg base (CX w) k fa fd [x] (sp w))
    (hsp : ∀ (w : World) (H : Hp) (a : Addr) (ns : List Int), ns.length ≤ n → SqL (K w.params) H a (ns.map V.int) → sp w [.ref a] H (fun v _ => v = .bl true) fun _ _ _ => False)
    (hCX : ∀ (w : World) (H : Hp) (s : Shared) (e : Value) (s' : Shared), CX w [] H s (fun _ _ _ => False) e s' → False) :
    PySem.W.WalkO q loose XP YP l.row.toRowW d [] (fun f vs => PySem.call f vs) := by
  refine Att.attach_call hn hdf fun w s₀ s₁ mg mb fa o pm cd doc a vs ns G Y ho hd hcd hmg hobj hints hlen hg => ?_
  have KX := hY w _ Y
  obtain ⟨fd, hb, hF⟩ := F w mg fa _ KX G.T.g hmg
  exact law_callG KX G.T.g G.T.b G.T.builtins G.T.nolimit hg hobj hints (Nat.le_trans hlen hn2) hr hF hb (fun H hS => hsp w H a ns hlen hS) fun H e s' => hCX w H s₁ e s'
end Nd

namespace Nd
open PySem PySem.Spec PyProof.Rows L2

/-! ### methods of texts with one argument -/
def D.strs : List D → Option (List Str)
  | [] => some []
  | .str x :: ds => (D.strs ds).map (x :: ·)
  | _ => none
theorem strs_eq : ∀ {ds : List D} {ys : List Str}, D.strs ds = some ys → ds = ys.map D.str
  | [], ys, h => by cases h; rfl
  | .str x :: ds, ys, h => by
    simp only [D.strs] at h
    obtain ⟨zs, h1, rfl⟩ := Option.map_eq_some_iff.mp h
    rw [strs_eq h1]; rfl
  | .non :: _, ys, h => by cases h
  | .bl _ :: _, ys, h => by cases h
  | .int _ :: _, ys, h => by cases h
  | .lst _ :: _, ys, h => by cases h
  | .tup _ :: _, ys, h => by cases h
  | .dk _ _ :: _, ys, h => by cases h
  | .ins _ _ _ :: _, ys, h => by cases h
  | .ty _ :: _, ys, h => by cases h
  | .cls _ :: _, ys, h => by cases h
  | .ex _ _ _ :: _, ys, h => by cases h
theorem strs_map : ∀ ys : List Str, D.strs (ys.map D.str) = some ys
  | [] => rfl
  | y :: ys => by rw [List.map_cons, D.strs, strs_map ys]; rfl
def mM1 (f : Str → D → Option T) (mo ma : ME) : ME := fun e => match mo e with
  | .ok a => (match a.toD with
    | .str s => (match ma e with
      | .ok b => (match f s b.toD with
        | some t => .ok t
        | none => .bad)
      | r => r)
    | _ => .bad)
  | r => r
section
variable {K : PySem.W.Frag} {cl : Cl} {E : L2.St → XK} {ι : Type} {X : ι → Cx} {a b c : Expr} {ma mb mc : ME} {pos pos' apos : Pos}
def M1Sem (K : PySem.W.Frag) (cl : Cl) (r : V → List V → Hp → VK → Prop) (f : Str → D → Option T) : Prop := ∀ (H : Hp) (A : List Addr), (∀ a ∈ A, Ow (H a)) → ∀ (s : Str) (y : V) (dy : D) (t : T), Rp K cl (hd H A) y dy → f s dy = some t → ∀ Q, OkP K cl H A Q t → r (.str s) [y] H Q
theorem se_m1 {r : V → List V → Hp → VK → Prop} {f : Str → D → Option T} {ta tb : TE} (ho : M1Sem K cl r f) (ha : SE K cl E ta ma) (hb : SE K cl E tb mb) : SE K cl E (tM1 r ta tb) (mM1 f ma mb) := fun σ H e A1 st Q p => by
  refine ha.d st ?_
  unfold mM1 at p
  cases q : ma e with
  | bad => rw [q] at p; exact p
  | exc x => rw [q] at p; exact p
  | ok ta' =>
    rw [q] at p
    intro v H1 s1 r1
    simp only at p
    cases q1 : ta'.toD with
    | str z =>
      rw [q1] at p r1
      cases r1
      refine ⟨⟨z, rfl⟩, hb.d (st.up s1) ?_⟩
      simp only at p
      cases q2 : mb e with
      | bad => rw [q2] at p; exact p
      | exc x => rw [q2] at p; exact ExP.up s1 p
      | ok tb' =>
        rw [q2] at p
        intro u H2 s2 r2
        simp only at p
        cases q3 : f z tb'.toD with
        | none => rw [q3] at p; exact p.elim
        | some t =>
          rw [q3] at p
          exact ho H2 A1 (fun a ha => ((st.1 a ha).same s1).same s2) z u _ t r2 q3 Q (OkP.up (s1.trans s2) p)
    | _ => rw [q1] at p; exact p.elim
def fJoin (s : Str) : D → Option T
  | .lst ds => match D.strs ds with
    | some ys => if (ys.map (·.length)).sum + ys.length * s.length ≤ 16777216 then some (.p (.str (Txt.join s ys))) else none
    | none => none
  | .tup ds => match D.strs ds with
    | some ys => if (ys.map (·.length)).sum + ys.length * s.length ≤ 16777216 then some (.p (.str (Txt.join s ys))) else none
    | none => none
  | _ => none
theorem je_join (ha : JE K cl E X a ma) (hb : JE K cl E X b mb) (hs : ∀ ξ, starEach [b] (X ξ).env = [(false, eval b (X ξ).env)] := by intro _; rfl) (hbase : ∀ ξ, attributeBase a "join" (X ξ).env (eval a (X ξ).env) = eval a (X ξ).env := by intro _; rfl) (hline : (apos.endLine == pos.line) = true := by rfl) :
    JE K cl E X (.Call (.Attribute a "join" apos) [b] [] pos) (mM1 fJoin ma mb) := by
  obtain ⟨hK, ta, pa, sa⟩ := ha
  obtain ⟨_, tb, pb, sb⟩ := hb
  refine ⟨hK, _, fun ξ => by have := pe_join (pa ξ) (pb ξ) (hs ξ) (hbase ξ) hline; rw [hK ξ] at this; exact this, se_m1 ?_ sa sb⟩
  intro H A o s y dy t ry e Q k
  unfold fJoin at e
  cases ry with
  | lst h1 h2 =>
    simp only at e
    split at e
    · rename_i ys hy
      split at e
      · rename_i hl
        cases e
        rw [strs_eq hy] at h2
        have hv := RpA.strs h2
        refine ⟨s, _, ys, rfl, rfl, .inl (sqL_hid (by rw [← hv]; exact h1)), hl, OkP.pure k (Same.refl _) (.str _)⟩
      · cases e
    · cases e
  | tup h1 h2 =>
    simp only at e
    split at e
    · rename_i ys hy
      split at e
      · rename_i hl
        cases e
        rw [strs_eq hy] at h2
        have hv := RpA.strs h2
        refine ⟨s, _, ys, rfl, rfl, .inr (sqT_hid (by rw [← hv]; exact h1)), hl, OkP.pure k (Same.refl _) (.str _)⟩
      · cases e
    · cases e
  | _ => simp only at e; cases e
def fSplit (s : Str) : D → Option T
  | .str b => if (b.length == 0) = false ∧ s.length + 2 ≤ sizeLine then some (.l ((Txt.split s b).map fun y => T.p (.str y))) else none
  | _ => none
theorem rpA_strs {H : Hp} : ∀ {ns : List Str}, RpA K cl H (ns.map V.str) (ns.map D.str)
  | [] => .nil
  | n :: _ => .cons (.str n) rpA_strs
theorem je_split (ha : JE K cl E X a ma) (hb : JE K cl E X b mb) (hs : ∀ ξ, starEach [b] (X ξ).env = [(false, eval b (X ξ).env)] := by intro _; rfl) (hbase : ∀ ξ, attributeBase a "split" (X ξ).env (eval a (X ξ).env) = eval a (X ξ).env := by intro _; rfl) (hline : (apos.endLine == pos.line) = true := by rfl) :
    JE K cl E X (.Call (.Attribute a "split" apos) [b] [] pos) (mM1 fSplit ma mb) := by
  obtain ⟨hK, ta, pa, sa⟩ := ha
  obtain ⟨_, tb, pb, sb⟩ := hb
  refine ⟨hK, _, fun ξ => pe_split (pa ξ) (pb ξ) (hs ξ) (hbase ξ) hline, se_m1 ?_ sa sb⟩
  intro H A o s y dy t ry e Q k
  unfold fSplit at e
  cases ry with
  | str b =>
    simp only at e
    split at e
    · rename_i hl
      cases e
      refine ⟨s, b, rfl, rfl, hl.1, hl.2, fun p hp => ?_⟩
      have := OkP.newLp (ds := (Txt.split s b).map D.str) (by rw [List.map_map]; exact k) (Same.refl _) hp rpA_strs
      exact this
    · cases e
  | _ => simp only at e; cases e

/-! ### chains of texts -/
def mChS (f g : Str → Str → Bool) (ma mb mc : ME) : ME := fun e => match ma e with
  | .ok (.p (.str i)) => (match mb e with
    | .ok (.p (.str j)) => if f i j = true then (match mc e with
        | .ok (.p (.str k)) => .ok (.p (.bl (g j k)))
        | .exc x => .exc x
        | _ => .bad) else .ok (.p (.bl false))
    | .exc x => .exc x
    | _ => .bad)
  | .exc x => .exc x
  | _ => .bad
theorem SE.str {te : TE} {m : ME} (h : SE K cl E te m) {σ : L2.St} {H : Hp} {e : Env} {A1 : List Addr} (st : StE K cl σ H e A1) {Q : VK} (h1 : ∀ b H2, m e = .ok (.p (.str b)) → Same H H2 → Q (.str b) H2) (h2 : ∀ x, m e = .exc x → ExP cl (E σ) H x)
    (h3 : (∀ b, m e ≠ .ok (.p (.str b))) → (∀ x, m e ≠ .exc x) → False) : te σ H Q := by
  refine h.d st ?_
  cases q : m e with
  | bad => exact (h3 (fun _ z => by rw [q] at z; cases z) (fun _ z => by rw [q] at z; cases z)).elim
  | exc x => exact h2 x q
  | ok t =>
    cases t with
    | l ts => exact (h3 (fun _ z => by rw [q] at z; cases z) (fun _ z => by rw [q] at z; cases z)).elim
    | k ks ts => exact (h3 (fun _ z => by rw [q] at z; cases z) (fun _ z => by rw [q] at z; cases z)).elim
    | i C ks ts tg => exact (h3 (fun _ z => by rw [q] at z; cases z) (fun _ z => by rw [q] at z; cases z)).elim
    | p d =>
      cases d with
      | str b =>
        intro v H2 s r
        cases r
        exact h1 b H2 q s
      | _ => exact (h3 (fun _ z => by rw [q] at z; cases z) (fun _ z => by rw [q] at z; cases z)).elim
abbrev rS0 (f : Str → Str → Bool) : R2 := fun x y H Q => ∃ i j, x = .str i ∧ y = .str j ∧ Q (.bl (f i j)) H
theorem se_chainS {f g : Str → Str → Bool} {ta tb tc : TE} (sa : SE K cl E ta ma) (sb : SE K cl E tb mb) (sc : SE K cl E tc mc) : SE K cl E (tChain (rS0 f) (rS0 g) ta tb tc) (mChS f g ma mb mc) := by
  intro σ H e A1 st Q k
  unfold mChS at k
  refine sa.str st (fun i H1 q1 u1 => ?_) (fun x q => by rw [q] at k; exact k) (fun n1 n2 => ?_)
  · rw [q1] at k
    refine sb.str (st.up u1) (fun j H2 q2 u2 => ?_) (fun x q => by rw [q] at k; exact ExP.up u1 k) (fun n1 n2 => ?_)
    · rw [q2] at k
      simp only at k
      refine ⟨i, j, rfl, rfl, f i j, rfl, ?_⟩
      by_cases hf : f i j = true
      · rw [if_pos hf] at k
        rw [if_pos hf]
        refine sc.str ((st.up u1).up u2) (fun l H3 q3 u3 => ?_) (fun x q => by rw [q] at k; exact ExP.up (u1.trans u2) k) (fun n1 n2 => ?_)
        · rw [q3] at k
          exact ⟨j, l, rfl, rfl, OkP.pure k ((u1.trans u2).trans u3) (.bl _)⟩
        · split at k
          · rename_i q; exact n1 _ q
          · rename_i q; exact n2 _ q
          · exact k
      · rw [if_neg hf] at k
        rw [if_neg hf]
        exact OkP.pure k (u1.trans u2) (.bl _)
    · simp only at k
      first
        | exact k
        | (split at k
           · rename_i q; exact n1 _ q
           · rename_i q; exact n2 _ q
           · exact k)
  · split at k
    · rename_i q; exact n1 _ q
    · rename_i q; exact n2 _ q
    · exact k
theorem je_chainS {op op' : CmpOp} {f g : Str → Str → Bool} (ho : ∀ ξ, OpR (X ξ) (compareOp op) (rS0 f)) (ho' : ∀ ξ, OpR (X ξ) (compareOp op') (rS0 g)) (ha : JE K cl E X a ma) (hb : JE K cl E X b mb) (hc : JE K cl E X c mc) (hm : lastMarks [op, op'] [b, c] = false := by with_unfolding_all rfl) : JE K cl E X (.Compare a [op, op'] [b, c] pos) (mChS f g ma mb mc) := by
  obtain ⟨hKha, t, p, s⟩ := ha
  obtain ⟨hKhb, t1, p1, s1⟩ := hb
  obtain ⟨hKhc, t2, p2, s2⟩ := hc
  exact ⟨hKha, _, fun ξ => pe_chain (ho ξ) (ho' ξ) (p ξ) (p1 ξ) (p2 ξ) hm, se_chainS s s1 s2⟩
theorem jb_chainS {op op' : CmpOp} {f g : Str → Str → Bool} (ho : ∀ ξ, OpR (X ξ) (compareOp op) (rS0 f)) (ho' : ∀ ξ, OpR (X ξ) (compareOp op') (rS0 g)) (ha : JE K cl E X a ma) (hb : JE K cl E X b mb) (hc : JE K cl E X c mc) (hm : lastMarks [op, op'] [b, c] = false := by with_unfolding_all rfl) : JB K cl E X (.Compare a [op, op'] [b, c] pos) (asB (mChS f g ma mb mc)) := by
  obtain ⟨hKha, t, p, s⟩ := ha
  obtain ⟨hKhb, t1, p1, s1⟩ := hb
  obtain ⟨hKhc, t2, p2, s2⟩ := hc
  exact ⟨hKha, _, fun ξ => pt_chain (ho ξ) (ho' ξ) (p ξ) (p1 ξ) (p2 ξ) hm, sb_test (se_chainS s s1 s2)⟩
end
end Nd

namespace Nd
open PySem PySem.Spec PyProof.Rows L2

/-! ### list(zip(a, b)): the machine's side -/
theorem zip_lacks_len : typeLookup (.type "zip") "__len__" = pure none := am_miss_of_fast (by decide +kernel)
theorem zip_lacks_hint : typeLookup (.type "zip") "__length_hint__" = pure none := am_miss_of_fast (by decide +kernel)
/-- a zip of two lists at its turn i; S is no object of its own -/
structure ZSt (h : Heap) (z TI TO i1 i2 l1 l2 S : Addr) (xs ys : Array Value) (i : Nat) : Prop where
  ti : IsPair h TI (.ref i1) (.ref i2)
  a1 : h.IsListIter i1 l1 i
  a2 : h.IsListIter i2 l2 i
  b1 : h.IsList l1 xs
  b2 : h.IsList l2 ys
  zz : (IsZip h z TI TO .none ∧ ∃ a b, IsPair h TO a b) ∨ ∃ T f oT, IsZipHeld h z TI TO T f ∧ h.get? T = some oT ∧ T ≠ z ∧ T ≠ i1 ∧ T ≠ i2 ∧ T ≠ S
structure ZOff (S z TI TO i1 i2 l1 l2 : Addr) : Prop where
  z : S ≠ z
  ti : S ≠ TI
  to : S ≠ TO
  i1 : S ≠ i1
  i2 : S ≠ i2
  l1 : S ≠ l1
  l2 : S ≠ l2
section
variable {z TI TO i1 i2 l1 l2 S : Addr} {xs ys : Array Value} {i : Nat}
/-- what changes S alone -/
theorem ZSt.off {h h' : Heap} (st : ZSt h z TI TO i1 i2 l1 l2 S xs ys i) (O : ZOff S z TI TO i1 i2 l1 l2) (k : ∀ b o, b ≠ S → h.get? b = some o → h'.get? b = some o) : ZSt h' z TI TO i1 i2 l1 l2 S xs ys i where
  ti := k _ _ O.ti.symm st.ti
  a1 := st.a1.at fun o e => k _ o O.i1.symm e
  a2 := st.a2.at fun o e => k _ o O.i2.symm e
  b1 := st.b1.at fun o e => k _ o O.l1.symm e
  b2 := st.b2.at fun o e => k _ o O.l2.symm e
  zz := by
    rcases st.zz with ⟨hz, a, b, hTO⟩ | ⟨T, f, oT, hz, hT, r1, r2, r3, r4⟩
    · exact .inl ⟨k _ _ O.z.symm hz, a, b, k _ _ O.to.symm hTO⟩
    · exact .inr ⟨T, f, oT, k _ _ O.z.symm hz, k _ _ r4 hT, r1, r2, r3, r4⟩
variable {prog : Program} {w : World} {A : Around} {E : Value → Shared → Prop} {s : Shared}
theorem ZSt.isZip (st : ZSt s.heap z TI TO i1 i2 l1 l2 S xs ys i) : s.TypeIs (.ref z) "zip" := by
  rcases st.zz with ⟨hz, _⟩ | ⟨T, f, oT, hz, _⟩
  · exact ⟨_, hz, rfl⟩
  · exact ⟨_, hz, rfl⟩
theorem zl_item {Q : Option Value → Shared → Prop} {x y : Value} (D : ZipApart z TI TO i1 i2 l1 l2) (st : ZSt s.heap z TI TO i1 i2 l1 l2 S xs ys i) (hS : S < s.heap.objs.size) (hx : xs[i]? = some x) (hy : ys[i]? = some y)
    (hQ : ∀ h', ZSt h' z TI TO i1 i2 l1 l2 S xs ys (i + 1) → h'.get? s.heap.objs.size = some { cls := .type "tuple", data := .seq #[x, y] } → h'.objs.size = s.heap.objs.size + 1 →
      (∀ b o, b ≠ z → b ≠ TO → b ≠ i1 → b ≠ i2 → s.heap.get? b = some o → h'.get? b = some o) → Q (some (.ref s.heap.objs.size)) { s with heap := h' }) :
    wpAny (model prog w) A (pyNext (.ref z)) Q E s := by
  have lt : ∀ {c o}, s.heap.get? c = some o → s.heap.objs.size ≠ c := fun e => Nat.ne_of_gt (Heap.lt_size e)
  have n1 : s.heap.objs.size ≠ i1 := let ⟨_, e, _⟩ := st.a1; lt e
  have n2 : s.heap.objs.size ≠ i2 := let ⟨_, e, _⟩ := st.a2; lt e
  rcases st.zz with ⟨hz, a, b, hTO⟩ | ⟨T, f, oT, hz, hT, r1, r2, r3, r4⟩
  · refine wpAny_pyNext_zip_item D hz st.ti hTO st.a1 st.a2 st.b1 st.b2 hx hy fun h' p1 p2 p3 p4 p5 p6 k => ?_
    refine hQ h' ⟨k _ _ D.TIz D.TITO D.TIi1 D.TIi2 st.ti, p3, p4, st.b1.at fun o e => k _ o D.l1z D.l1TO D.l1i1 D.l1i2 e, st.b2.at fun o e => k _ o D.l2z D.l2TO D.l2i1 D.l2i2 e, .inr ⟨_, false, _, p1, p5, lt hz, n1, n2, Nat.ne_of_gt hS⟩⟩ p5 p6 fun b o c1 c2 c3 c4 e => k b o c1 c2 c3 c4 e
  · refine wpAny_pyNext_zip_item_held D hz hT st.ti st.a1 st.a2 st.b1 st.b2 hx hy fun h' p1 p3 p4 p5 p6 k => ?_
    refine hQ h' ⟨k _ _ D.TIz D.TIi1 D.TIi2 st.ti, p3, p4, st.b1.at fun o e => k _ o D.l1z D.l1i1 D.l1i2 e, st.b2.at fun o e => k _ o D.l2z D.l2i1 D.l2i2 e, .inr ⟨T, true, oT, p1, k _ _ r1 r2 r3 hT, r1, r2, r3, r4⟩⟩ p5 p6 fun b o c1 _ c3 c4 e => k b o c1 c3 c4 e
theorem zl_done {Q : Option Value → Shared → Prop} (hh : A.handled = none) (D : ZipApart z TI TO i1 i2 l1 l2) (st : ZSt s.heap z TI TO i1 i2 l1 l2 S xs ys i) (hx : xs[i]? = none ∨ ys[i]? = none)
    (hQ : ∀ h', (∀ b o, b ≠ z → b ≠ TO → b ≠ i1 → b ≠ i2 → s.heap.get? b = some o → h'.get? b = some o) → Q none { s with heap := h' }) :
    wpAny (model prog w) A (pyNext (.ref z)) Q E s := by
  rcases st.zz with ⟨hz, a, b, hTO⟩ | ⟨T, f, oT, hz, hT, r1, r2, r3, r4⟩
  · exact wpAny_pyNext_zip_end hh D hz st.ti hTO st.a1 st.a2 st.b1 st.b2 hx fun h' k => hQ h' fun b o c1 c2 c3 c4 e => k b o c1 c2 c3 c4 e
  · exact wpAny_pyNext_zip_end_held hh D hz hT st.ti st.a1 st.a2 st.b1 st.b2 hx fun h' k => hQ h' fun b o c1 _ c3 c4 e => k b o c1 c3 c4 e
end
end Nd

namespace Nd
open PySem PySem.Spec PyProof.Rows L2

/-- pairs that stand in a heap, above lo, in order -/
structure ZPrs (xs ys : Array Value) (lo : Addr) (h : Heap) (as : List Addr) : Prop where
  rise : as.Pairwise (· < ·)
  abv : ∀ a ∈ as, lo < a
  prs : ∀ (j : Nat) (a : Addr), as[j]? = some a → ∃ x y, xs[j]? = some x ∧ ys[j]? = some y ∧ h.get? a = some { cls := .type "tuple", data := .seq #[x, y] }
theorem ZPrs.lt {xs ys : Array Value} {lo : Addr} {h : Heap} {as : List Addr} (g : ZPrs xs ys lo h as) {a : Addr} (ha : a ∈ as) : a < h.objs.size := by
  obtain ⟨j, hj⟩ := List.mem_iff_getElem?.mp ha
  obtain ⟨x, y, _, _, e⟩ := g.prs j a hj
  exact Heap.lt_size e
theorem ZPrs.stay {xs ys : Array Value} {lo : Addr} {h h' : Heap} {as : List Addr} (g : ZPrs xs ys lo h as) (k : ∀ b o, lo < b → h.get? b = some o → h'.get? b = some o) : ZPrs xs ys lo h' as :=
  ⟨g.rise, g.abv, fun j a hj => by
    obtain ⟨x, y, e1, e2, e3⟩ := g.prs j a hj
    exact ⟨x, y, e1, e2, k a _ (g.abv a (List.mem_of_getElem? hj)) e3⟩⟩
section
variable {z TI TO i1 i2 l1 l2 S : Addr} {xs ys : Array Value}
variable {prog : Program} {w : World} {A : Around} {s : Shared} {R : Result → Shared → Prop}
/-- all of the zip's own objects lie below S -/
structure ZLow (S z TI TO i1 i2 l1 l2 : Addr) : Prop where
  z : z < S
  ti : TI < S
  to : TO < S
  i1 : i1 < S
  i2 : i2 < S
  l1 : l1 < S
  l2 : l2 < S
theorem ZLow.off (L : ZLow S z TI TO i1 i2 l1 l2) : ZOff S z TI TO i1 i2 l1 l2 := ⟨Nat.ne_of_gt L.z, Nat.ne_of_gt L.ti, Nat.ne_of_gt L.to, Nat.ne_of_gt L.i1, Nat.ne_of_gt L.i2, Nat.ne_of_gt L.l1, Nat.ne_of_gt L.l2⟩
theorem zl_loop (hh : A.handled = none) (D : ZipApart z TI TO i1 i2 l1 l2) (L : ZLow S z TI TO i1 i2 l1 l2) {n : Nat} (hx : xs.size = n) (hy : ys.size = n) (hn : n ≤ sizeLine) (res : Value) {h1 : Heap}
    (hR : ∀ h' tk acc c as, (∀ b o, b ≠ S → b ≠ z → b ≠ TO → b ≠ i1 → b ≠ i2 → h1.get? b = some o → h'.get? b = some o) → h'.get? S = some { cls := .type "list", dict := none, data := .seq acc c, slots := #[] } → as.length = n → ZPrs xs ys S h' as →
      acc.toList = as.map Value.ref → R (.ok (.ret res)) { s with heap := h', toks := tk }) :
    ∀ (k i : Nat) (h : Heap) (tk c : Nat) (acc : Array Value) (as : List Addr), n - i = k → i ≤ n → ZSt h z TI TO i1 i2 l1 l2 S xs ys i → (∀ b o, b ≠ S → b ≠ z → b ≠ TO → b ≠ i1 → b ≠ i2 → h1.get? b = some o → h.get? b = some o) →
      h.get? S = some { cls := .type "list", dict := none, data := .seq acc c, slots := #[] } → acc.toList = as.map Value.ref → as.length = i → ZPrs xs ys S h as →
      codeAny (model prog w) A (.builtin "list.extend.loop" ⟨[.ref S, .ref z, res], []⟩) R { s with heap := h, toks := tk } := by
  have O := L.off
  intro k
  induction k with
  | zero =>
    intro i h tk c acc as hk hi st keep hS hacc hal hG
    have hin : i = n := by omega
    refine codeAny_builtin PySem.F.entry_extend_loop ?_
    rw [Around.under_plainId PySem.F.plain_extend_loop _]
    show wpAny _ A.in1 (pyNext (.ref z) >>= _) _ _ _
    refine wpAny_bind (zl_done (s := { s with heap := h, toks := tk }) (A := A.in1) hh D st (.inl (Array.getElem?_eq_none (by omega))) fun h' kp => ?_)
    refine wpAny_pure (hR h' tk acc c as (fun b o c0 c1 c2 c3 c4 e => kp b o c1 c2 c3 c4 (keep b o c0 c1 c2 c3 c4 e)) (kp S _ O.z O.to O.i1 O.i2 hS) (by omega) (hG.stay fun b o hb e => ?_) hacc)
    exact kp b o (Nat.ne_of_gt (Nat.lt_trans L.z hb)) (Nat.ne_of_gt (Nat.lt_trans L.to hb)) (Nat.ne_of_gt (Nat.lt_trans L.i1 hb)) (Nat.ne_of_gt (Nat.lt_trans L.i2 hb)) e
  | succ k ih =>
    intro i h tk c acc as hk hi st keep hS hacc hal hG
    have hlt : i < n := by omega
    have hsz : acc.size = i := by rw [← Array.length_toList, hacc, List.length_map, hal]
    have ex := Array.getElem?_eq_getElem (show i < xs.size by omega)
    have ey := Array.getElem?_eq_getElem (show i < ys.size by omega)
    refine codeAny_builtin PySem.F.entry_extend_loop ?_
    rw [Around.under_plainId PySem.F.plain_extend_loop _]
    show wpAny _ A.in1 (pyNext (.ref z) >>= _) _ _ _
    refine wpAny_bind (zl_item (s := { s with heap := h, toks := tk }) D st (Heap.lt_size hS) ex ey fun h' st' ht hz kp => ?_)
    dsimp only at ht hz kp ⊢
    have hS' := kp S _ O.z O.to O.i1 O.i2 hS
    have hSl : S < h.objs.size := Heap.lt_size hS
    have up : ∀ b o, b ≠ S → h'.get? b = some o → (h'.update S (Obj.mapSeq (·.push (Value.ref h.objs.size)))).get? b = some o := fun b o hb e => (Heap.get?_update_other _ _ (Ne.symm hb)).trans e
    have new := up _ _ (Nat.ne_of_gt hSl) ht
    have hG' : ZPrs xs ys S (h'.update S (Obj.mapSeq (·.push (Value.ref h.objs.size)))) as := hG.stay fun b o hb e => up b o (Nat.ne_of_gt hb) (kp b o (Nat.ne_of_gt (Nat.lt_trans L.z hb)) (Nat.ne_of_gt (Nat.lt_trans L.to hb)) (Nat.ne_of_gt (Nat.lt_trans L.i1 hb)) (Nat.ne_of_gt (Nat.lt_trans L.i2 hb)) e)
    show wpAny _ A.in1 (updateSeq S (·.push (Value.ref h.objs.size)) >>= _) _ _ _
    refine wpAny_bind ?_
    refine wpAny_updateSeq hS' rfl (wpAny_pure ⟨plainId_quiet PySem.F.plain_extend_loop _, ih (i + 1) _ tk _ (acc.push (Value.ref h.objs.size)) (as ++ [h.objs.size]) (by omega) hlt (st'.off O up)
      (fun b o c0 c1 c2 c3 c4 e => up b o c0 (kp b o c1 c2 c3 c4 (keep b o c0 c1 c2 c3 c4 e))) (Heap.get?_update_self _ hS' rfl) (by rw [Array.toList_push, hacc, List.map_append]; rfl) (by rw [List.length_append, hal]; rfl) ⟨?_, ?_, ?_⟩⟩) (by omega) (by show (acc.push (Value.ref h.objs.size)).size ≤ sizeLine + 1; rw [Array.size_push, hsz]; omega)
    · refine List.pairwise_append.mpr ⟨hG.rise, List.pairwise_singleton _ _, fun a ha b hb => ?_⟩
      rw [List.mem_singleton.mp hb]
      exact hG.lt ha
    · intro a ha
      rcases List.mem_append.mp ha with ha | ha
      · exact hG.abv a ha
      · rw [List.mem_singleton.mp ha]; exact hSl
    · intro j b hj
      by_cases h1 : j < as.length
      · rw [List.getElem?_append_left h1] at hj
        exact hG'.prs j b hj
      · rw [List.getElem?_append_right (by omega)] at hj
        have e0 : j - as.length = 0 := by
          by_cases q : j - as.length = 0
          · exact q
          · rw [List.getElem?_eq_none (by simp; omega)] at hj; cases hj
        rw [e0] at hj
        have hb : h.objs.size = b := by simpa using hj
        have ej : j = i := by omega
        rw [ej, ← hb]
        exact ⟨_, _, ex, ey, new⟩
theorem zl_extend (hh : A.handled = none) (D : ZipApart z TI TO i1 i2 l1 l2) (L : ZLow S z TI TO i1 i2 l1 l2) {n : Nat} (hx : xs.size = n) (hy : ys.size = n) (hn : n ≤ sizeLine) (res : Value) (c0 : Nat)
    (st : ZSt s.heap z TI TO i1 i2 l1 l2 S xs ys 0) (hz : IsZip s.heap z TI TO .none) (hS : s.heap.get? S = some { cls := .type "list", data := .seq #[] c0 })
    (hR : ∀ h' tk acc c as, (∀ b o, b ≠ S → b ≠ z → b ≠ TO → b ≠ i1 → b ≠ i2 → s.heap.get? b = some o → h'.get? b = some o) → h'.get? S = some { cls := .type "list", dict := none, data := .seq acc c, slots := #[] } → as.length = n → ZPrs xs ys S h' as →
      acc.toList = as.map Value.ref → R (.ok (.ret res)) { s with heap := h', toks := tk }) :
    wpAny (model prog w) A.in1 (Builtin.List.listExtendWith (.ref S) (.ref z) res)
      (fun fin s' => match fin with | .done f => R (.ok f) s' | .again c' => c'.quiet = true ∧ codeAny (model prog w) A c' R s') (fun e s' => R (.error e) s') s := by
  have O := L.off
  have ty := st.isZip
  unfold Builtin.List.listExtendWith
  refine wpAny_bind (wpAny_typeOf (T := "zip") ty ?_)
  have q1 : Builtin.List.listSameRef (.ref S) (.ref z) = false := by simp [Builtin.List.listSameRef, O.z]
  have q2 : (Value.type "zip" == Value.type "list") = false := by decide
  have q3 : (Value.type "zip" == Value.type "tuple") = false := by decide
  simp only [q1, q2, q3, Bool.or_false, Bool.false_eq_true, if_false]
  refine wpAny_bind (wpAny_pyIter_zip hz ?_)
  refine wpAny_bind (wpAny_holding ?_)
  unfold Builtin.List.listLengthHint
  refine wpAny_bind (wpAny_specialOf ty zip_lacks_len ?_)
  show wpAny _ A.in1 (specialOf (Value.ref z) (Str.ofString "__length_hint__") >>= _) _ _ _
  refine wpAny_bind (wpAny_specialOf ty zip_lacks_hint ?_)
  refine wpAny_pure ?_
  show wpAny _ A.in1 (rule "list.extend.makes-room" >>= fun _ => Builtin.List.listTouch (.ref S) >>= fun _ =>
    again (.builtin "list.extend.loop" ⟨[.ref S, .ref z, res], []⟩)) _ _ _
  refine wpAny_bind (wpAny_rule ?_)
  refine wpAny_bind ?_
  show wpAny _ A.in1 (updateSeq S (·.push .none) >>= fun _ => updateSeq S (·.pop)) _ _ _
  refine wpAny_bind (wpAny_updateSeq hS rfl ?_)
  have hS2 := Heap.get?_update_self (Obj.mapSeq (·.push Value.none)) hS rfl
  refine wpAny_updateSeq (hz := by seq_fits) hS2 rfl ?_
  have hS3 := Heap.get?_update_self (Obj.mapSeq (·.pop)) hS2 rfl
  have oth : ∀ b o, b ≠ S → s.heap.get? b = some o → ((s.heap.update S (Obj.mapSeq (·.push Value.none))).update S (Obj.mapSeq (·.pop))).get? b = some o :=
    fun b o hb e => (Heap.get?_update_other _ _ (Ne.symm hb)).trans ((Heap.get?_update_other _ _ (Ne.symm hb)).trans e)
  refine wpAny_pure ⟨plainId_quiet PySem.F.plain_extend_loop _, ?_⟩
  refine zl_loop (s := s) (h1 := s.heap) hh D L hx hy hn res hR n 0 _ _ _ #[] [] (Nat.sub_zero _) (Nat.zero_le _) (st.off O oth) (fun b o c0 _ _ _ _ e => oth b o c0 e) hS3 rfl rfl ⟨List.Pairwise.nil, (fun _ ha => nomatch ha), (fun j a hj => by simp at hj)⟩
theorem zl_init (hh : A.handled = none) (D : ZipApart z TI TO i1 i2 l1 l2) (L : ZLow S z TI TO i1 i2 l1 l2) {n : Nat} (hx : xs.size = n) (hy : ys.size = n) (hn : n ≤ sizeLine)
    (st : ZSt s.heap z TI TO i1 i2 l1 l2 S xs ys 0) (hz : IsZip s.heap z TI TO .none) (hS : s.heap.get? S = some { cls := .type "list", data := .seq #[] })
    (hR : ∀ h' tk acc c as, (∀ b o, b ≠ S → b ≠ z → b ≠ TO → b ≠ i1 → b ≠ i2 → s.heap.get? b = some o → h'.get? b = some o) → h'.get? S = some { cls := .type "list", dict := none, data := .seq acc c, slots := #[] } → as.length = n → ZPrs xs ys S h' as →
      acc.toList = as.map Value.ref → R (.ok (.ret .none)) { s with heap := h', toks := tk }) :
    wpAny (model prog w) A.in1 (Builtin.«list.__init__» ⟨[.ref S, .ref z], []⟩)
      (fun fin s' => match fin with | .done f => R (.ok f) s' | .again c' => c'.quiet = true ∧ codeAny (model prog w) A c' R s') (fun e s' => R (.error e) s') s := by
  have O := L.off
  show wpAny _ A.in1 (do let old ← Builtin.List.listItems (.ref S); Builtin.List.listUpdate (.ref S) (fun _ => #[]); letGo old.toList.reverse; Builtin.List.listExtendWith (.ref S) (.ref z) .none) _ _ s
  refine wpAny_bind ?_
  unfold Builtin.List.listItems
  refine wpAny_bind (wpAny_seqItems hS rfl (wpAny_pure ?_))
  show wpAny _ A.in1 (updateSeq S (fun _ => #[]) >>= fun _ => letGo (#[] : Array Value).toList.reverse >>= fun _ => Builtin.List.listExtendWith (.ref S) (.ref z) .none) _ _ s
  refine wpAny_bind (wpAny_updateSeq hS rfl ?_)
  have hS2 := Heap.get?_update_self (Obj.mapSeq (fun _ => (#[] : Array Value))) hS rfl
  have oth : ∀ b o, b ≠ S → s.heap.get? b = some o → (s.heap.update S (Obj.mapSeq (fun _ => (#[] : Array Value)))).get? b = some o :=
    fun b o hb e => (Heap.get?_update_other _ _ (Ne.symm hb)).trans e
  refine wpAny_bind (wpAny_letGo ?_)
  refine zl_extend hh D L hx hy hn .none _ (st.off O oth) (oth _ _ O.z.symm hz) hS2 fun h' tk acc c as kp hS' hl hG hacc => ?_
  exact hR h' tk acc c as (fun b o c0 c1 c2 c3 c4 e => kp b o c0 c1 c2 c3 c4 (oth b o c0 e)) hS' hl hG hacc
end
section
variable {z TI TO i1 i2 l1 l2 : Addr} {xs ys : Array Value} {prog : Program} {w : World} {A : Around} {E : Value → Shared → Prop} {s : Shared}
theorem call_list_zip {Q : Value → Shared → Prop} (hh : A.handled = none) (D : ZipApart z TI TO i1 i2 l1 l2) {n : Nat} (hx : xs.size = n) (hy : ys.size = n) (hn : n ≤ sizeLine)
    (st : ZSt s.heap z TI TO i1 i2 l1 l2 s.heap.objs.size xs ys 0) (hz : IsZip s.heap z TI TO .none) (L : ZLow s.heap.objs.size z TI TO i1 i2 l1 l2)
    (hQ : ∀ h' tk c as, (∀ b o, b ≠ z → b ≠ TO → b ≠ i1 → b ≠ i2 → s.heap.get? b = some o → h'.get? b = some o) → h'.get? s.heap.objs.size = some { cls := .type "list", dict := none, data := .seq (as.map Value.ref).toArray c, slots := #[] } → as.length = n → ZPrs xs ys s.heap.objs.size h' as →
      Q (.ref s.heap.objs.size) { s with heap := h', toks := tk }) :
    wpAny (model prog w) A (call (.type "list") [.ref z]) Q E s := by
  refine callType_codes (Q₁ := fun obj t => obj = .ref s.heap.objs.size ∧ t = { s with heap := s.heap.push { cls := .type "list", data := .seq #[] } }) F.called_list (F.typeCall_list_1 _) F.entry_list_init
    (code_list_new _ ⟨rfl, rfl⟩) fun obj t ht => ?_
  obtain ⟨rfl, rfl⟩ := ht
  have hS : (s.heap.push { cls := .type "list", data := .seq #[] }).get? s.heap.objs.size = some { cls := .type "list", data := .seq #[] } := Heap.get?_push_size _ rfl
  have psh : ∀ b o, b ≠ s.heap.objs.size → s.heap.get? b = some o → (s.heap.push { cls := .type "list", data := .seq #[] }).get? b = some o := fun b o _ e => Heap.get?_push_of_some _ e
  refine ⟨⟨_, hS, rfl⟩, F.args_list_init_2 _ _, zl_init (by simpa using hh) D L hx hy hn (st.off L.off psh) (psh _ _ L.off.z.symm hz) hS fun h' tk acc c as kp hS' hl hG hacc => ?_⟩
  refine ⟨rfl, hQ h' tk c as (fun b o c1 c2 c3 c4 e => kp b o (Nat.ne_of_lt (Heap.lt_size e)) c1 c2 c3 c4 (psh b o (Nat.ne_of_lt (Heap.lt_size e)) e)) ?_ hl hG⟩
  rw [hS', ← hacc]
end
end Nd

namespace Nd
open PySem PySem.Spec PyProof.Rows L2

/-! ### list(zip(a, b)) -/
/-- several objects of data are tracked -/
def updL (H : Hp) : List (Addr × HO) → Hp
  | [] => H
  | (a, o) :: r => updL (upd H a o) r
theorem updL_none {H : Hp} {b : Addr} : ∀ {l : List (Addr × HO)}, H b = none → b ∉ l.map (·.1) → updL H l b = none
  | [], h, _ => h
  | (a, o) :: r, h, hb => by
    simp only [List.map_cons, List.mem_cons, not_or] at hb
    exact updL_none (H := upd H a o) (by rw [upd_ne hb.1]; exact h) hb.2
theorem updL_same {H : Hp} : ∀ {l : List (Addr × HO)}, (∀ p ∈ l, H p.1 = none) → (l.map (·.1)).Nodup → Same H (updL H l)
  | [], _, _ => Same.refl _
  | (a, o) :: r, h, nd => by
    simp only [List.map_cons, List.nodup_cons] at nd
    show Same H (updL (upd H a o) r)
    have h0 : H a = none := h (a, o) List.mem_cons_self
    refine (same_upd h0).trans (updL_same (fun p hp => ?_) nd.2)
    have hne : p.1 ≠ a := fun e => nd.1 (e ▸ List.mem_map_of_mem (f := fun x : Addr × HO => x.1) hp)
    rw [upd_ne hne]
    exact h p (List.mem_cons_of_mem _ hp)
theorem updL_get : ∀ {H : Hp} {l : List (Addr × HO)} {a : Addr} {o : HO}, (∀ p ∈ l, H p.1 = none) → (l.map (·.1)).Nodup → (a, o) ∈ l → updL H l a = some o
  | H, (b, u) :: r, a, o, h, nd, hm => by
    simp only [List.map_cons, List.nodup_cons] at nd
    have hr : ∀ p ∈ r, upd H b u p.1 = none := fun p hp => by
      have hne : p.1 ≠ b := fun e => nd.1 (e ▸ List.mem_map_of_mem (f := fun x : Addr × HO => x.1) hp)
      rw [upd_ne hne]
      exact h p (List.mem_cons_of_mem _ hp)
    show updL (upd H b u) r a = some o
    rcases List.mem_cons.mp hm with e | hm
    · cases e
      exact updL_same hr nd.2 _ _ upd_same
    · exact updL_get hr nd.2 hm
section
variable {X : Cx} {pins : List (Addr × Obj)} {σ : L2.St}
/-- the tuples of a list are tracked, one by one -/
theorem inv_tracks {s : Shared} : ∀ {H : Hp} {l : List (Addr × HO)}, Inv X pins σ H s → (l.map (·.1)).Nodup → (∀ p ∈ l, H p.1 = none ∧ X.s_0.heap.get? p.1 = none ∧ p.1 ≠ X.env.locals ∧ (∀ q ∈ X.pn ++ pins, q.1 ≠ p.1) ∧
      ∃ (x y : V) (u v : Value), p.2 = .tup [x, y] ∧ RelV x u ∧ RelV y v ∧ s.heap.get? p.1 = some { cls := .type "tuple", data := .seq #[u, v] }) → Inv X pins σ (updL H l) s
  | H, [], I, _, _ => I
  | H, (a, o) :: r, I, nd, h => by
    simp only [List.map_cons, List.nodup_cons] at nd
    obtain ⟨h1, h2, h3, h4, x, y, u, v, ho, ru, rv, hg⟩ := h (a, o) List.mem_cons_self
    simp only at h1 h2 h3 h4 ho hg
    subst ho
    have I1 : Inv X pins σ (upd H a (.tup [x, y])) s := inv_track I hg h1 h2 ⟨by show 2 ≤ sizeLine; decide, [u, v], .cons ru (.cons rv .nil), ⟨_, hg, rfl, _, rfl⟩⟩ h3 (fun w z => by cases z) h4
    show Inv X pins σ (updL (upd H a (.tup [x, y])) r) s
    refine inv_tracks I1 nd.2 fun p hp => ?_
    obtain ⟨q1, q⟩ := h p (List.mem_cons_of_mem _ hp)
    have hne : p.1 ≠ a := fun e => nd.1 (e ▸ List.mem_map_of_mem (f := fun x : Addr × HO => x.1) hp)
    exact ⟨by rw [upd_ne hne]; exact q1, q⟩
def tZipL (K : PySem.W.Frag) (ta : TA) : TE := fun σ H Q => ta σ H fun vs H1 => ∃ (a b : Addr) (xs ys : List V), vs = [.ref a, .ref b] ∧ SqL K H1 a xs ∧ SqL K H1 b ys ∧ xs.length = ys.length ∧
  ∀ (l : List (Addr × HO)) (p : Addr), (∀ q ∈ l, H1 q.1 = none) → (l.map (·.1)).Nodup → l.map (·.2) = (xs.zip ys).map (fun q => HO.tup [q.1, q.2]) → H1 p = none → p ∉ l.map (·.1) → Q (.ref p) (upd (updL H1 l) p (.lst (l.map fun q => V.ref q.1)))
theorem pe_zipL {a b : Expr} {ta : TA} {p p2 pos pos' : Pos} (hc : X.calm = true) (hg : Gl X "list") (hm : X.mg "list" = none) (hg2 : Gl X "zip") (hm2 : X.mg "zip" = none) (ha : PA X [a, b] ta)
    (hs : starEach [a, b] X.env = (false, eval a X.env) :: starEach [b] X.env) (hpl : (backTo pos' (starEach [b] X.env)).any (·.1) = false)
    (he : starEach [.Call (.Name "zip" p2) [a, b] [] pos'] X.env = (false, eval (.Call (.Name "zip" p2) [a, b] [] pos') X.env) :: starEach [] X.env) :
    PE X (.Call (.Name "list" p) [.Call (.Name "zip" p2) [a, b] [] pos'] [] pos) (tZipL X.K ta) := by
  refine ⟨fun pins s σ H Q I h => ?_⟩
  refine wpAny_Call_Name_kw (ld_blt I hg hm PyProof.Rows.boot_list ?_)
  refine PyProof.Rows.callWith_type1 (PyProof.Rows.args_cons ?_ he) he rfl
  refine Call_ (ld_blt I hg2 hm2 PyProof.Rows.boot_zip (PyProof.Rows.callWith_type1 (thn (ha.run pos' pins s σ H _ I h) fun us s1 ⟨vs, H1, I1, r1, q1⟩ => ?_) hs hpl))
  obtain ⟨a1, b1, xs, ys, rfl, hqx, hqy, hxy, q⟩ := q1
  obtain ⟨ua, ub, rfl, ra, rb⟩ : ∃ ua ub, us = [ua, ub] ∧ RelV (.ref a1) ua ∧ RelV (.ref b1) ub := by
    cases r1 with
    | cons r rr =>
      cases rr with
      | cons r' rr => cases rr; exact ⟨_, _, rfl, r, r'⟩
  cases ra
  cases rb
  obtain ⟨its, rv, p1, _⟩ := I1.list hqx
  obtain ⟨its2, rv2, p2, _⟩ := I1.list hqy
  refine call_zip_2 p1.isList p2.isList fun h' hz hTI hTO h1 h2 hsz hk => ?_
  refine PyProof.Rows.args_nil ?_
  have l1 : its.length = xs.length := rv.length.symm
  have l2 : its2.length = ys.length := rv2.length.symm
  have hn : xs.length ≤ sizeLine := by
    obtain ⟨_, _, _, z⟩ := I1.list hqx
    exact z
  have g1 : ∀ {c o}, s1.heap.get? c = some o → c < s1.heap.objs.size := fun e => Heap.lt_size e
  have a1l : a1 < s1.heap.objs.size := p1.lt
  have b1l : b1 < s1.heap.objs.size := p2.lt
  have D := PySem.W.ktu_apart s1.heap.objs.size a1 b1 a1l b1l
  have zs : ∀ k, k < 5 → s1.heap.objs.size + k < h'.objs.size := fun k hk => by rw [hsz]; omega
  have L : ZLow h'.objs.size (s1.heap.objs.size + 4) (s1.heap.objs.size + 2) (s1.heap.objs.size + 3) s1.heap.objs.size (s1.heap.objs.size + 1) a1 b1 := by
    rw [hsz]
    exact ⟨Nat.add_lt_add_left (by decide) _, Nat.add_lt_add_left (by decide) _, Nat.add_lt_add_left (by decide) _, Nat.lt_add_of_pos_right (by decide), Nat.add_lt_add_left (by decide) _, Nat.lt_of_lt_of_le a1l (Nat.le_add_right _ _), Nat.lt_of_lt_of_le b1l (Nat.le_add_right _ _)⟩
  have st : ZSt h' (s1.heap.objs.size + 4) (s1.heap.objs.size + 2) (s1.heap.objs.size + 3) s1.heap.objs.size (s1.heap.objs.size + 1) a1 b1 h'.objs.size its.toArray its2.toArray 0 :=
    ⟨hTI, h1, h2, p1.isList.at fun o e => hk _ o e, p2.isList.at fun o e => hk _ o e, .inl ⟨hz, _, _, hTO⟩⟩
  refine call_list_zip (s := { s1 with heap := h' }) (I1.ok.hd hc) D (n := xs.length) (by rw [List.size_toArray]; exact l1) (by rw [List.size_toArray]; omega) hn st hz L fun h3 tk c as kp hS hl hG => ?_
  dsimp only at kp hS hG ⊢
  have I3 : Inv X pins σ H1 { s1 with heap := h3, toks := tk } := I1.kept (t' := tk) fun b o e => kp b o (Nat.ne_of_lt (Nat.lt_of_lt_of_le (g1 e) (by omega))) (Nat.ne_of_lt (Nat.lt_of_lt_of_le (g1 e) (by omega))) (Nat.ne_of_lt (g1 e)) (Nat.ne_of_lt (Nat.lt_of_lt_of_le (g1 e) (by omega))) (hk b o e)
  have lo : ∀ a ∈ as, s1.heap.objs.size ≤ a := fun a ha => Nat.le_trans (by rw [hsz]; omega) (Nat.le_of_lt (hG.abv a ha))
  have fr : ∀ b, s1.heap.objs.size ≤ b → H1 b = none ∧ X.s_0.heap.get? b = none ∧ b ≠ X.env.locals ∧ ∀ q ∈ X.pn ++ pins, q.1 ≠ b := fun b hb => by
    have hn := I1.hok.fresh hb
    have fp := I1.fpOk hb hn
    refine ⟨hn, ?_, fp.2.1, fp.2.2.2.2.2⟩
    cases e : X.s_0.heap.get? b with
    | none => rfl
    | some o => exact absurd (Nat.lt_of_lt_of_le (Heap.lt_size e) (Nat.le_trans I1.sz hb)) (Nat.lt_irrefl _)
  have hlen : (xs.zip ys).length = as.length := by rw [List.length_zip, ← hxy, hl]; omega
  have hnd : as.Nodup := hG.rise.imp fun h => Nat.ne_of_lt h
  obtain ⟨l, hl1⟩ : ∃ l : List (Addr × HO), l = as.zip ((xs.zip ys).map fun q => HO.tup [q.1, q.2]) := ⟨_, rfl⟩
  have m1 : l.map (·.1) = as := by
    rw [hl1, List.map_fst_zip]
    rw [List.length_map]; omega
  have m2 : l.map (·.2) = (xs.zip ys).map fun q => HO.tup [q.1, q.2] := by
    rw [hl1, List.map_snd_zip]
    rw [List.length_map]; omega
  have hnone : ∀ q ∈ l, H1 q.1 = none := fun q hq => (fr q.1 (lo q.1 (by rw [← m1]; exact List.mem_map_of_mem hq))).1
  have I4 : Inv X pins σ (updL H1 l) { s1 with heap := h3, toks := tk } := by
    refine inv_tracks I3 (by rw [m1]; exact hnd) fun q hq => ?_
    have hqa : q.1 ∈ as := by rw [← m1]; exact List.mem_map_of_mem hq
    obtain ⟨f1, f2, f3, f4⟩ := fr q.1 (lo q.1 hqa)
    refine ⟨f1, f2, f3, f4, ?_⟩
    obtain ⟨j, hj⟩ := List.mem_iff_getElem?.mp hq
    have j1 : as[j]? = some q.1 := by rw [← m1, List.getElem?_map, hj]; rfl
    have j2 : ((xs.zip ys).map fun q => HO.tup [q.1, q.2])[j]? = some q.2 := by rw [← m2, List.getElem?_map, hj]; rfl
    rw [List.getElem?_map] at j2
    obtain ⟨⟨x, y⟩, j3, j4⟩ := Option.map_eq_some_iff.mp j2
    obtain ⟨jx, jy⟩ := List.getElem?_zip_eq_some.mp j3
    obtain ⟨u, v, e1, e2, e3⟩ := hG.prs j q.1 j1
    obtain ⟨u', eu, ru⟩ := rv.get jx
    obtain ⟨v', ev, rw'⟩ := rv2.get jy
    have e1' : its[j]? = some u := by simpa using e1
    have e2' : its2[j]? = some v := by simpa using e2
    rw [eu] at e1'
    rw [ev] at e2'
    cases e1'
    cases e2'
    exact ⟨x, y, u, v, j4.symm, ru, rw', e3⟩
  have pf : s1.heap.objs.size ≤ h'.objs.size := by rw [hsz]; omega
  obtain ⟨f1, f2, f3, f4⟩ := fr h'.objs.size pf
  have pn : h'.objs.size ∉ l.map (·.1) := by
    rw [m1]
    exact fun hm => absurd (hG.abv _ hm) (Nat.lt_irrefl _)
  have vl : ∀ bs : List Addr, Vals (bs.map V.ref) (bs.map Value.ref) := fun bs => by
    induction bs with
    | nil => exact .nil
    | cons b bs ih => exact .cons rfl ih
  have I5 : Inv X pins σ (upd (updL H1 l) h'.objs.size (.lst (as.map V.ref))) { s1 with heap := h3, toks := tk } :=
    inv_track I4 hS (updL_none f1 pn) f2 ⟨by rw [List.length_map, hl]; exact hn, as.map Value.ref, c, vl as, hS⟩ f3 (fun w z => by cases z) f4
  have qq := q l h'.objs.size hnone (by rw [m1]; exact hnd) m2 f1 pn
  rw [← m1, List.map_map] at I5
  exact ⟨.ref h'.objs.size, _, I5, rfl, qq⟩
end
section
variable {K : PySem.W.Frag} {cl : Cl} {E : L2.St → XK} {ι : Type} {X : ι → Cx} {a b : Expr} {pos pos' : Pos}
def fZipL : List D → Option T
  | [.lst xs, .lst ys] => if xs.length = ys.length then some (.l ((zipD xs ys).map T.p)) else none
  | _ => none
theorem rpA_zip {G : Hp} : ∀ (xs ys : List D) (l : List (Addr × HO)) (vs ws : List V), l.map (·.2) = (vs.zip ws).map (fun q => HO.tup [q.1, q.2]) → (∀ q ∈ l, G q.1 = some q.2) → RpA K cl G vs xs → RpA K cl G ws ys → RpA K cl G (l.map fun q => V.ref q.1) (zipD xs ys)
  | [], ys, l, vs, ws, h, k, r1, r2 => by
    cases r1
    cases l with
    | nil => exact .nil
    | cons q l => simp at h
  | x :: xs, [], l, vs, ws, h, k, r1, r2 => by
    cases r2
    cases l with
    | nil => exact .nil
    | cons q l => simp at h
  | x :: xs, y :: ys, l, vs, ws, h, k, r1, r2 => by
    cases r1 with
    | cons r1 r1' =>
      cases r2 with
      | cons r2 r2' =>
        cases l with
        | nil => simp at h
        | cons q l =>
          simp only [List.map_cons, List.zip_cons_cons, List.cons.injEq] at h
          have ih := rpA_zip xs ys l _ _ h.2 (fun q hq => k q (List.mem_cons_of_mem _ hq)) r1' r2'
          have hq := k q List.mem_cons_self
          rw [h.1] at hq
          unfold zipD at ih ⊢
          rw [List.map_cons, List.zipWith_cons_cons]
          exact .cons (.tup (.inl (.inl hq)) (.cons r1 (.cons r2 .nil))) ih
theorem je_zipl {p p2 : Pos} {ms : Env → RL} (hc : ∀ ξ, (X ξ).calm = true) (hg : ∀ ξ, Gl (X ξ) "list") (hm : ∀ ξ, (X ξ).mg "list" = none) (hg2 : ∀ ξ, Gl (X ξ) "zip") (hm2 : ∀ ξ, (X ξ).mg "zip" = none) (ha : JA K cl E X [a, b] ms)
    (hs : ∀ ξ, starEach [a, b] (X ξ).env = (false, eval a (X ξ).env) :: starEach [b] (X ξ).env := by intro _; rfl) (hpl : ∀ ξ, (backTo pos' (starEach [b] (X ξ).env)).any (·.1) = false := by intro _; rfl)
    (he : ∀ ξ, starEach [.Call (.Name "zip" p2) [a, b] [] pos'] (X ξ).env = (false, eval (.Call (.Name "zip" p2) [a, b] [] pos') (X ξ).env) :: starEach [] (X ξ).env := by intro _; rfl) :
    JE K cl E X (.Call (.Name "list" p) [.Call (.Name "zip" p2) [a, b] [] pos'] [] pos) (mCB fZipL ms) := by
  obtain ⟨hK, t, pa, s⟩ := ha
  refine ⟨hK, tZipL K t, fun ξ => by rw [← hK ξ]; exact pe_zipL (hc ξ) (hg ξ) (hm ξ) (hg2 ξ) (hm2 ξ) (pa ξ) (hs ξ) (hpl ξ) (he ξ), fun σ H e A1 st Q k => ?_⟩
  show t σ H _
  refine s σ H e A1 st _ ?_
  unfold mCB at k
  cases q : ms e with
  | bad => rw [q] at k; exact k
  | exc x => rw [q] at k; exact k
  | ok ds =>
    rw [q] at k
    simp only at k
    intro vs H1 u r
    cases q2 : fZipL ds with
    | none => rw [q2] at k; exact k.elim
    | some t' =>
      rw [q2] at k
      unfold fZipL at q2
      split at q2
      · rename_i xs ys
        split at q2
        · rename_i hl
          cases q2
          obtain ⟨v1, v2, rfl, r1, r2⟩ := r.two
          cases r1 with
          | lst h1 h2 =>
            cases r2 with
            | lst h3 h4 =>
              refine ⟨_, _, _, _, rfl, sqL_hid h1, sqL_hid h3, by rw [h2.length, h4.length]; exact hl, fun l p hn nd hm hp hpn => ?_⟩
              have s2 := updL_same hn nd
              refine OkP.newLp k (u.trans s2) (updL_none hp hpn) ?_
              have sG : Same (hd H1 A1) (hd (updL H1 l) A1) := hd_same s2 fun a ha => .inl ha
              refine rpA_zip _ _ _ _ _ hm (fun q hq => ?_) (h2.mono sG) (h4.mono sG)
              refine hd_some.mpr ⟨fun z => ?_, updL_get hn nd hq⟩
              exact ((st.1 _ z).same u).ne (hn q hq)
        · cases q2
      · cases q2
end
end Nd

namespace Nd
open PySem PySem.Spec PyProof.Rows L2
/-! ### the text -/
def topS (i : Nat) : Stmt := PySem.Challenge.pw_nightdeal_k02_whole_joined_met_without.main.body.getD i (.Pass ⟨0, 0, 0, 0⟩)
abbrev s__law_mixed : Stmt := topS 18
abbrev s__law_number : Stmt := topS 19
abbrev s__law_pieces : Stmt := topS 20
abbrev s__law_two : Stmt := topS 21
abbrev s_is_whole : Stmt := topS 4
abbrev s_is_among : Stmt := topS 5
abbrev s_is_stretch : Stmt := topS 9
abbrev s_are_stretches : Stmt := topS 10
abbrev s_need_stretches : Stmt := topS 11
abbrev s_overlaps : Stmt := topS 13
abbrev s_gaps : Stmt := topS 14
abbrev s_without : Stmt := topS 16
abbrev s_met : Stmt := topS 15
abbrev s_joined : Stmt := topS 12
abbrev s__law_by : Stmt := topS 23
abbrev s__law_are : Stmt := topS 22
abbrev s__law_right : Stmt := topS 24
abbrev s_law : Stmt := topS 25
/-! ### what the top leaves -/
structure Tx (K : PySem.W.Frag) (cl : Cl) (mg : Str → Option Value) : Prop where
  z_bool : mg (PySem.Str.ofString "bool") = none
  z_enumerate : mg (PySem.Str.ofString "enumerate") = none
  z_int : mg (PySem.Str.ofString "int") = none
  z_isinstance : mg (PySem.Str.ofString "isinstance") = none
  z_len : mg (PySem.Str.ofString "len") = none
  z_list : mg (PySem.Str.ofString "list") = none
  z_max : mg (PySem.Str.ofString "max") = none
  z_min : mg (PySem.Str.ofString "min") = none
  z_range : mg (PySem.Str.ofString "range") = none
  z_set : mg (PySem.Str.ofString "set") = none
  z_sorted : mg (PySem.Str.ofString "sorted") = none
  z_tuple : mg (PySem.Str.ofString "tuple") = none
  z_zip : mg (PySem.Str.ofString "zip") = none
  c_LAST_MINUTE : ∃ t, mg (PySem.Str.ofString "LAST_MINUTE") = some (.int 1000000 t)
  c_MOST_STRETCHES : ∃ t, mg (PySem.Str.ofString "MOST_STRETCHES") = some (.int 2000 t)
/-! ### mirrors -/
abbrev N__law_mixed : List Str := [PySem.Str.ofString "_law_number_here", PySem.Str.ofString "_law_k"]
noncomputable def G__law_mixed : List D → RE := mDef 2
  (mSeq (mAsgF 0 (mB dMod (mB dMul (mB dAdd (mB dAdd (mB dMod (mV 0) (mC (.int 2147483647))) (mB dMul (mB dMul (mC (.int 7919)) (mV 1)) (mV 1))) (mB dMul (mC (.int 31)) (mV 1))) (mC (.int 48271))) (mC (.int 2147483647))))
  (mRet (mB dMod (mB dMul (mV 0) (mB dAdd (mC (.int 69621)) (mB dMul (mC (.int 2)) (mV 1)))) (mC (.int 2147483629)))))
noncomputable def M__law_mixed : List D → RE := G__law_mixed
abbrev N__law_number : List Str := [PySem.Str.ofString "_law_script", PySem.Str.ofString "_law_k"]
noncomputable def G__law_number (M__law_mixed : List D → RE) : List D → RE := mDef 2
  (mSeq (mIfS (asB (mB dEq (mV 0) (mL mNilT)))
  (mRet (mCall 2 M__law_mixed (mCons (mC (.int 17)) (mCons (mV 1) mNil))))
  mNext)
  (mRet (mCall 2 M__law_mixed (mCons (mB dIx (mV 0) (mB dMod (mV 1) (mCB fLen (mCons (mV 0) mNil)))) (mCons (mV 1) mNil)))))
noncomputable def M__law_number : List D → RE := G__law_number M__law_mixed
abbrev N__law_pieces : List Str := [PySem.Str.ofString "_law_points", PySem.Str.ofString "_law_some", PySem.Str.ofString "_law_k"]
noncomputable def G__law_pieces : List D → RE := mDef 3
  (mSeq (mAsgF 1 (mCB fSrtSet (mCons (mV 0) mNil)))
  (mRet (mLc [2] (iRng3 (mCons (mC (.int 0)) (mCons (mB dSub (mCB fLen (mCons (mV 1) mNil)) (mC (.int 1))) (mCons (mC (.int 2)) mNil)))) (gN 2) (fun _ => RB.ok true) (mTup (mCons (mB dIx (mV 1) (mV 2)) (mCons (mB dIx (mV 1) (mB dAdd (mV 2) (mC (.int 1)))) mNil))))))
noncomputable def M__law_pieces : List D → RE := G__law_pieces
abbrev N__law_two : List Str := [PySem.Str.ofString "_law_script", PySem.Str.ofString "_law_most", PySem.Str.ofString "_law_points", PySem.Str.ofString "_law_others", PySem.Str.ofString "_law_k", PySem.Str.ofString "_law_cell", PySem.Str.ofString "_law_number_here", PySem.Str.ofString "_law_near"]
noncomputable def G__law_two (M__law_number : List D → RE) (M__law_mixed : List D → RE) (M__law_pieces : List D → RE) : List D → RE := mDef 8
  (mSeq (mAsgF 1 (mB dIx (mL (mConsT (mC (.int 60)) (mConsT (mC (.int 1000000)) (mConsT (mC (.int 300)) (mConsT (mC (.int 1000000)) mNilT))))) (mB dMod (mCall 2 M__law_number (mCons (mV 0) (mCons (mC (.int 90)) mNil))) (mC (.int 4)))))
  (mSeq (mAsg 2 (mL mNilT))
  (mSeq (mAsg 3 (mL mNilT))
  (mSeq (mFor (iEnumD (mCons (mSl (mV 0) (fun _ => RO.ok none) (mO (mC (.int 63)))) mNil)) (gT 2 (gC (gN 4) (gC (gN 5) gNl)))
  (mSeq (mAsgF 6 (mCall 2 M__law_mixed (mCons (mV 5) (mCons (mV 4) mNil))))
  (mSeq (mApp 2 (mB dMod (mV 6) (mB dAdd (mV 1) (mC (.int 1)))))
  (mSeq (mAsgF 7 (mBw (mB dSub (mB dAdd (mB dIx (mV 2) (mB dMod (mB dFdiv (mV 6) (mC (.int 7))) (mCB fLen (mCons (mV 2) mNil)))) (mB dMod (mB dFdiv (mV 6) (mC (.int 99))) (mC (.int 3)))) (mC (.int 1)))))
  (mApp 3 (mB dIx (mL (mConsT (mB dMod (mB dFdiv (mV 6) (mC (.int 3))) (mB dAdd (mV 1) (mC (.int 1)))) (mConsT (mCB fMax2 (mCons (mC (.int 0)) (mCons (mCB fMin2 (mCons (mV 1) (mCons (mV 7) mNil))) mNil))) mNilT))) (mB dMod (mB dFdiv (mV 6) (mC (.int 5))) (mC (.int 2)))))))))
  (mFrz 2 (mFrz 3 (mRet (mTup (mCons (mCall 1 M__law_pieces (mCons (mV 2) mNil)) (mCons (mCall 1 M__law_pieces (mCons (mV 3) mNil)) mNil))))))))))
noncomputable def M__law_two : List D → RE := G__law_two M__law_number M__law_mixed M__law_pieces
abbrev N_is_whole : List Str := [PySem.Str.ofString "thing"]
noncomputable def G_is_whole : List D → RE := mDef 1
  (mRet (mAndV (mCB fIsi (mCons (mV 0) (mCons (mC (.ty "int")) mNil))) (mNotV (mCB fIsi (mCons (mV 0) (mCons (mC (.ty "bool")) mNil))))))
noncomputable def M_is_whole : List D → RE := G_is_whole
abbrev N_is_among : List Str := [PySem.Str.ofString "thing", PySem.Str.ofString "least", PySem.Str.ofString "most"]
noncomputable def G_is_among (M_is_whole : List D → RE) : List D → RE := mDef 3
  (mRet (mAndV (mCall 1 M_is_whole (mCons (mV 0) mNil)) (mChI (fun i j => decide (i ≤ j)) (fun i j => decide (i ≤ j)) (mV 1) (mV 0) (mV 2))))
noncomputable def M_is_among : List D → RE := G_is_among M_is_whole
abbrev N_is_stretch : List Str := [PySem.Str.ofString "thing", PySem.Str.ofString "begin", PySem.Str.ofString "behind"]
noncomputable def G_is_stretch (M_is_among : List D → RE) : List D → RE := mDef 3
  (mSeq (mIfS (mOr (mNot (mTru (mCB fIsi (mCons (mV 0) (mCons (mC (.ty "tuple")) mNil))))) (asB (mB dNe (mCB fLen (mCons (mV 0) mNil)) (mC (.int 2)))))
  (mRet (mC (.bl false)))
  mNext)
  (mSeq (mAsgT (gT 2 (gC (gN 1) (gC (gN 2) gNl))) (mV 0))
  (mRet (mAndV (mCall 3 M_is_among (mCons (mV 1) (mCons (mC (.int 0)) (mCons (mC (.int 1000000)) mNil)))) (mCall 3 M_is_among (mCons (mV 2) (mCons (mB dAdd (mV 1) (mC (.int 1))) (mCons (mC (.int 1000000)) mNil))))))))
noncomputable def M_is_stretch : List D → RE := G_is_stretch M_is_among
abbrev N_are_stretches : List Str := [PySem.Str.ofString "thing", PySem.Str.ofString "ended", PySem.Str.ofString "item"]
noncomputable def G_are_stretches (M_is_stretch : List D → RE) : List D → RE := mDef 3
  (mSeq (mIfS (mOr (mNot (mTru (mCB fIsi (mCons (mV 0) (mCons (mC (.ty "list")) mNil))))) (asB (mB dGt (mCB fLen (mCons (mV 0) mNil)) (mC (.int 2000)))))
  (mRet (mC (.bl false)))
  mNext)
  (mSeq (mAsgF 1 (mU dNeg (mC (.int 1))))
  (mSeq (mFor (iSeq (mV 0)) (gN 2)
  (mSeq (mIfS (mOr (mNot (mTru (mCall 1 M_is_stretch (mCons (mV 2) mNil)))) (asB (mB dLe (mB dIx (mV 2) (mC (.int 0))) (mV 1))))
  (mRet (mC (.bl false)))
  mNext)
  (mAsgF 1 (mB dIx (mV 2) (mC (.int 1))))))
  (mRet (mC (.bl true))))))
noncomputable def M_are_stretches : List D → RE := G_are_stretches M_is_stretch
abbrev N_need_stretches : List Str := [PySem.Str.ofString "thing"]
noncomputable def G_need_stretches (M_are_stretches : List D → RE) : List D → RE := mDef 1
  (mIfS (mNot (mTru (mCall 1 M_are_stretches (mCons (mV 0) mNil))))
  (fun _ => R.bad)
  mNext)
noncomputable def M_need_stretches : List D → RE := G_need_stretches M_are_stretches
abbrev N_overlaps : List Str := [PySem.Str.ofString "one", PySem.Str.ofString "other", PySem.Str.ofString "out", PySem.Str.ofString "here", PySem.Str.ofString "there", PySem.Str.ofString "begin", PySem.Str.ofString "behind"]
noncomputable def G_overlaps : List D → RE := mDef 7
  (mSeq (mAsg 2 (mL mNilT))
  (mSeq (mAsgF 3 (mC (.int 0)))
  (mSeq (mAsgF 4 (mC (.int 0)))
  (mSeq (mWhile (mAnd (asB (mB dLt (mV 3) (mCB fLen (mCons (mV 0) mNil)))) (asB (mB dLt (mV 4) (mCB fLen (mCons (mV 1) mNil)))))
  (mSeq (mAsgF 5 (mCB fMax2 (mCons (mB dIx (mB dIx (mV 0) (mV 3)) (mC (.int 0))) (mCons (mB dIx (mB dIx (mV 1) (mV 4)) (mC (.int 0))) mNil))))
  (mSeq (mAsgF 6 (mCB fMin2 (mCons (mB dIx (mB dIx (mV 0) (mV 3)) (mC (.int 1))) (mCons (mB dIx (mB dIx (mV 1) (mV 4)) (mC (.int 1))) mNil))))
  (mSeq (mIfS (asB (mB dLt (mV 5) (mV 6)))
  (mApp 2 (mTup (mCons (mV 5) (mCons (mV 6) mNil))))
  mNext)
  (mIfS (asB (mB dLe (mB dIx (mB dIx (mV 0) (mV 3)) (mC (.int 1))) (mB dIx (mB dIx (mV 1) (mV 4)) (mC (.int 1)))))
  (mAug dAddI 3 (mC (.int 1)))
  (mAug dAddI 4 (mC (.int 1))))))) 1000000000000)
  (mRetV 2)))))
noncomputable def M_overlaps : List D → RE := G_overlaps
abbrev N_gaps : List Str := [PySem.Str.ofString "one", PySem.Str.ofString "first", PySem.Str.ofString "last", PySem.Str.ofString "ends", PySem.Str.ofString "begins", PySem.Str.ofString "_", PySem.Str.ofString "behind", PySem.Str.ofString "begin"]
noncomputable def G_gaps : List D → RE := mDef 8
  (mSeq (mAsgF 3 (mB dAdd (mL (mConsT (mV 1) mNilT)) (mLc [5, 6] (iSeq (mV 0)) (gT 2 (gC (gN 5) (gC (gN 6) gNl))) (fun _ => RB.ok true) (mV 6))))
  (mSeq (mAsgF 4 (mB dAdd (mLc [7, 5] (iSeq (mV 0)) (gT 2 (gC (gN 7) (gC (gN 5) gNl))) (fun _ => RB.ok true) (mV 7)) (mL (mConsT (mV 2) mNilT))))
  (mRet (mCB fZipL (mCons (mV 3) (mCons (mV 4) mNil))))))
noncomputable def M_gaps : List D → RE := G_gaps
abbrev N_without : List Str := [PySem.Str.ofString "one", PySem.Str.ofString "other"]
noncomputable def G_without (M_need_stretches : List D → RE) (M_overlaps : List D → RE) (M_gaps : List D → RE) : List D → RE := mDef 2
  (mSeq (mDrop (mCall 1 M_need_stretches (mCons (mV 0) mNil)))
  (mSeq (mDrop (mCall 1 M_need_stretches (mCons (mV 1) mNil)))
  (mRet (mCall 2 M_overlaps (mCons (mV 0) (mCons (mCall 3 M_gaps (mCons (mV 1) (mCons (mC (.int 0)) (mCons (mC (.int 1000000)) mNil)))) mNil))))))
noncomputable def M_without : List D → RE := G_without M_need_stretches M_overlaps M_gaps
abbrev N_met : List Str := [PySem.Str.ofString "one", PySem.Str.ofString "other"]
noncomputable def G_met (M_need_stretches : List D → RE) (M_overlaps : List D → RE) : List D → RE := mDef 2
  (mSeq (mDrop (mCall 1 M_need_stretches (mCons (mV 0) mNil)))
  (mSeq (mDrop (mCall 1 M_need_stretches (mCons (mV 1) mNil)))
  (mRet (mCall 2 M_overlaps (mCons (mV 0) (mCons (mV 1) mNil))))))
noncomputable def M_met : List D → RE := G_met M_need_stretches M_overlaps
abbrev N_joined : List Str := [PySem.Str.ofString "one", PySem.Str.ofString "other", PySem.Str.ofString "out", PySem.Str.ofString "begin", PySem.Str.ofString "behind"]
noncomputable def G_joined (M_need_stretches : List D → RE) : List D → RE := mDef 5
  (mSeq (mDrop (mCall 1 M_need_stretches (mCons (mV 0) mNil)))
  (mSeq (mDrop (mCall 1 M_need_stretches (mCons (mV 1) mNil)))
  (mSeq (mAsg 2 (mL mNilT))
  (mSeq (mFor (iSeq (mCB fSorted (mCons (mB dAdd (mV 0) (mV 1)) mNil))) (gT 2 (gC (gN 3) (gC (gN 4) gNl)))
  (mIfS (mBwB (mAnd (mTru (mV 2)) (asB (mB dLe (mV 3) (mB dIx (mB dIx (mV 2) (mU dNeg (mC (.int 1)))) (mC (.int 1)))))))
  (mSet 2 (mU dNeg (mC (.int 1))) (mBw (mTup (mCons (mB dIx (mB dIx (mV 2) (mU dNeg (mC (.int 1)))) (mC (.int 0))) (mCons (mCB fMax2 (mCons (mB dIx (mB dIx (mV 2) (mU dNeg (mC (.int 1)))) (mC (.int 1))) (mCons (mV 4) mNil))) mNil)))))
  (mApp 2 (mTup (mCons (mV 3) (mCons (mV 4) mNil))))))
  (mRetV 2)))))
noncomputable def M_joined : List D → RE := G_joined M_need_stretches
abbrev N__law_by : List Str := [PySem.Str.ofString "_law_one", PySem.Str.ofString "_law_other", PySem.Str.ofString "_law_wanted", PySem.Str.ofString "_law_ends", PySem.Str.ofString "_law_has", PySem.Str.ofString "_law_found", PySem.Str.ofString "_law_k", PySem.Str.ofString "_law_minute", PySem.Str.ofString "_law_which", PySem.Str.ofString "_law_on", PySem.Str.ofString "_law_last", PySem.Str.ofString "_law_begin", PySem.Str.ofString "_law_behind"]
noncomputable def G__law_by : List D → RE := mDef 13
  (mSeq (mAsgF 3 (mB dAdd (mLc [11, 12] (iSeq (mV 0)) (gT 2 (gC (gN 11) (gC (gN 12) gNl))) (fun _ => RB.ok true) (mTup (mCons (mV 11) (mCons (mC (.int 0)) (mCons (mC (.int 1)) mNil))))) (mLc [11, 12] (iSeq (mV 0)) (gT 2 (gC (gN 11) (gC (gN 12) gNl))) (fun _ => RB.ok true) (mTup (mCons (mV 12) (mCons (mC (.int 0)) (mCons (mC (.int 0)) mNil)))))))
  (mSeq (mAsgF 3 (mCB fSorted (mCons (mB dAdd (mB dAdd (mV 3) (mLc [11, 12] (iSeq (mV 1)) (gT 2 (gC (gN 11) (gC (gN 12) gNl))) (fun _ => RB.ok true) (mTup (mCons (mV 11) (mCons (mC (.int 1)) (mCons (mC (.int 1)) mNil)))))) (mLc [11, 12] (iSeq (mV 1)) (gT 2 (gC (gN 11) (gC (gN 12) gNl))) (fun _ => RB.ok true) (mTup (mCons (mV 12) (mCons (mC (.int 1)) (mCons (mC (.int 0)) mNil)))))) mNil)))
  (mSeq (mAsg 4 (mL (mConsT (mC (.int 0)) (mConsT (mC (.int 0)) mNilT))))
  (mSeq (mAsg 5 (mL mNilT))
  (mSeq (mFor (iEnumD (mCons (mV 3) mNil)) (gT 2 (gC (gN 6) (gC (gT 3 (gC (gN 7) (gC (gN 8) (gC (gN 9) gNl)))) gNl)))
  (mSeq (mSet 4 (mV 8) (mV 9))
  (mSeq (mAsgF 10 (mB dEq (mB dAdd (mV 6) (mC (.int 1))) (mCB fLen (mCons (mV 3) mNil))))
  (mIfS (mBwB (mAnd (mNot (mTru (mV 10))) (mAnd (asB (mB dGt (mB dIx (mB dIx (mV 3) (mB dAdd (mV 6) (mC (.int 1)))) (mC (.int 0))) (mV 7))) (asB (mB dIn (mTup (mCons (mB dIx (mV 4) (mC (.int 0))) (mCons (mB dIx (mV 4) (mC (.int 1))) mNil))) (mV 2))))))
  (mIfS (mBwB (mAnd (asB (mB dNe (mV 5) (mL mNilT))) (asB (mB dEq (mB dIx (mB dIx (mV 5) (mU dNeg (mC (.int 1)))) (mC (.int 1))) (mV 7)))))
  (mSet 5 (mU dNeg (mC (.int 1))) (mBw (mTup (mCons (mB dIx (mB dIx (mV 5) (mU dNeg (mC (.int 1)))) (mC (.int 0))) (mCons (mB dIx (mB dIx (mV 3) (mB dAdd (mV 6) (mC (.int 1)))) (mC (.int 0))) mNil)))))
  (mApp 5 (mTup (mCons (mV 7) (mCons (mB dIx (mB dIx (mV 3) (mB dAdd (mV 6) (mC (.int 1)))) (mC (.int 0))) mNil)))))
  mNext))))
  (mRetV 5))))))
noncomputable def M__law_by : List D → RE := G__law_by
abbrev N__law_are : List Str := [PySem.Str.ofString "_law_found", PySem.Str.ofString "_law_due", PySem.Str.ofString "_law_one"]
noncomputable def G__law_are : List D → RE := mDef 3
  (mSeq (mIfS (mOr (mNot (mTru (mCB fIsi (mCons (mV 0) (mCons (mC (.ty "list")) mNil))))) (asB (mB dNe (mV 0) (mV 1))))
  (mRet (mC (.bl false)))
  mNext)
  (mSeq (mFor (iSeq (mV 0)) (gN 2)
  (mIfS (mOr (mNot (mTru (mCB fIsi (mCons (mV 2) (mCons (mC (.ty "tuple")) mNil))))) (mOr (mTru (mCB fIsi (mCons (mB dIx (mV 2) (mC (.int 0))) (mCons (mC (.ty "bool")) mNil)))) (mTru (mCB fIsi (mCons (mB dIx (mV 2) (mC (.int 1))) (mCons (mC (.ty "bool")) mNil))))))
  (mRet (mC (.bl false)))
  mNext))
  (mRet (mC (.bl true)))))
noncomputable def M__law_are : List D → RE := G__law_are
abbrev N__law_right : List Str := [PySem.Str.ofString "_law_one", PySem.Str.ofString "_law_other", PySem.Str.ofString "_law_handed", PySem.Str.ofString "_law_turn", PySem.Str.ofString "_law_some", PySem.Str.ofString "_law_due", PySem.Str.ofString "_law_k"]
noncomputable def G__law_right (M_without : List D → RE) (M_met : List D → RE) (M_joined : List D → RE) (M__law_by : List D → RE) (M__law_are : List D → RE) : List D → RE := mDef 7
  (mSeq (mAsgF 2 (mL (mConsT (mCB fList1 (mCons (mV 0) mNil)) (mConsT (mCB fList1 (mCons (mV 1) mNil)) mNilT))))
  (mSeq (mFor (iRng1 (mCons (mC (.int 2)) mNil)) (gN 3)
  (mSeq (mAsg 4 (mL (mConsT (mCall 2 M_joined (mCons (mB dIx (mV 2) (mC (.int 0))) (mCons (mB dIx (mV 2) (mC (.int 1))) mNil))) (mConsT (mCall 2 M_met (mCons (mB dIx (mV 2) (mC (.int 0))) (mCons (mB dIx (mV 2) (mC (.int 1))) mNil))) (mConsT (mCall 2 M_without (mCons (mB dIx (mV 2) (mC (.int 0))) (mCons (mB dIx (mV 2) (mC (.int 1))) mNil))) mNilT)))))
  (mSeq (mAsg 5 (mL (mConsT (mCall 3 M__law_by (mCons (mV 0) (mCons (mV 1) (mCons (mL (mConsT (mTup (mCons (mC (.int 1)) (mCons (mC (.int 0)) mNil))) (mConsT (mTup (mCons (mC (.int 0)) (mCons (mC (.int 1)) mNil))) (mConsT (mTup (mCons (mC (.int 1)) (mCons (mC (.int 1)) mNil))) mNilT)))) mNil)))) (mConsT (mCall 3 M__law_by (mCons (mV 0) (mCons (mV 1) (mCons (mL (mConsT (mTup (mCons (mC (.int 1)) (mCons (mC (.int 1)) mNil))) mNilT)) mNil)))) mNilT))))
  (mSeq (mApp 5 (mCall 3 M__law_by (mCons (mV 0) (mCons (mV 1) (mCons (mL (mConsT (mTup (mCons (mC (.int 1)) (mCons (mC (.int 0)) mNil))) mNilT)) mNil)))))
  (mFor (iRng1 (mCons (mC (.int 3)) mNil)) (gN 6)
  (mSeq (mIfS (mBwB (mOr (mNot (mTru (mCall 2 M__law_are (mCons (mB dIx (mV 4) (mV 6)) (mCons (mB dIx (mV 5) (mV 6)) mNil))))) (asB (mB dNe (mV 2) (mL (mConsT (mV 0) (mConsT (mV 1) mNilT)))))))
  (mRet (mC (.bl false)))
  mNext)
  (mApp1 4 (mV 6) (mTup (mCons (mC (.int 0)) (mCons (mC (.int 0)) mNil))))))))))
  (mRet (mC (.bl true)))))
noncomputable def M__law_right : List D → RE := G__law_right M_without M_met M_joined M__law_by M__law_are
abbrev N_law : List Str := [PySem.Str.ofString "_law_script", PySem.Str.ofString "_law_one", PySem.Str.ofString "_law_other"]
noncomputable def G_law (M__law_two : List D → RE) (M__law_right : List D → RE) : List D → RE := mDef 3
  (mSeq (mAsgT (gT 2 (gC (gN 1) (gC (gN 2) gNl))) (mCall 1 M__law_two (mCons (mV 0) mNil)))
  (mSeq (mIfS (mOr (mNot (mTru (mCall 2 M__law_right (mCons (mV 1) (mCons (mV 2) mNil))))) (mOr (mNot (mTru (mCall 2 M__law_right (mCons (mV 2) (mCons (mV 1) mNil))))) (mNot (mTru (mCall 2 M__law_right (mCons (mV 1) (mCons (mL mNilT) mNil)))))))
  (mRet (mC (.bl false)))
  mNext)
  (mRet (mAndV (mCall 2 M__law_right (mCons (mV 1) (mCons (mV 1) mNil))) (mCall 2 M__law_right (mCons (mL mNilT) (mCons (mV 2) mNil)))))))
noncomputable def M_law : List D → RE := G_law M__law_two M__law_right
/-! ### each def keeps to its mirror -/
section
variable {P : Program} {w : World} {K : PySem.W.Frag} {mg : Str → Option Value} {base : Heap} {cl : Cl}
theorem sc__law_mixed : FnScope N__law_mixed [PySem.Str.ofString "_law_number_here", PySem.Str.ofString "_law_k"] (defScope s__law_mixed) := ⟨rfl, rfl, rfl, by decide +kernel, rfl, by decide +kernel, by decide +kernel⟩
theorem ok__law_mixed {f : Addr} {fd : FuncData} (F : Fun K "_law_mixed" "_law_mixed" s__law_mixed f fd) (T : Tx K cl mg) : FnG P w K mg base (L2.CX P w) 1 f fd [PySem.Str.ofString "_law_number_here", PySem.Str.ofString "_law_k"] (spM K cl 2 M__law_mixed) :=
  have nd : ∀ _ : Unit, N__law_mixed.Nodup := fun _ => sc__law_mixed.nd
  def_ok F sc__law_mixed (fun cdv A outer s H E hr =>
  (js_cons (js_setF (i := 0) nd (je_mod (je_mul (je_add (je_add (je_mod (je_v (fun _ => rfl) 0 (fun _ => pv 0)) (je_int (fun _ => rfl))) (je_mul (je_mul (je_int (fun _ => rfl)) (je_v (fun _ => rfl) 1 (fun _ => pv 1))) (je_v (fun _ => rfl) 1 (fun _ => pv 1)))) (je_mul (je_int (fun _ => rfl)) (je_v (fun _ => rfl) 1 (fun _ => pv 1)))) (je_int (fun _ => rfl))) (je_int (fun _ => rfl))))
  (js_one (js_ret (je_mod (je_mul (je_v (fun _ => rfl) 0 (fun _ => pv 0)) (je_add (je_int (fun _ => rfl)) (je_mul (je_int (fun _ => rfl)) (je_v (fun _ => rfl) 1 (fun _ => pv 1))))) (je_int (fun _ => rfl)))))))
theorem sc__law_number : FnScope N__law_number [PySem.Str.ofString "_law_script", PySem.Str.ofString "_law_k"] (defScope s__law_number) := ⟨rfl, rfl, rfl, by decide +kernel, rfl, by decide +kernel, by decide +kernel⟩
theorem ok__law_number {f : Addr} {fd : FuncData} (F : Fun K "_law_number" "_law_number" s__law_number f fd) (T : Tx K cl mg) (D__law_mixed : Dn P w K mg base cl 1 "_law_mixed" 2 M__law_mixed) : FnG P w K mg base (L2.CX P w) 2 f fd [PySem.Str.ofString "_law_script", PySem.Str.ofString "_law_k"] (spM K cl 2 M__law_number) :=
  have nd : ∀ _ : Unit, N__law_number.Nodup := fun _ => sc__law_number.nd
  def_ok F sc__law_number (fun cdv A outer s H E hr =>
  (js_cons (js_if (jb_eq (fun _ => hr.r) (je_v (fun _ => rfl) 0 (fun _ => pv 0)) (je_list (jt_nil (fun _ => rfl))))
  (js_one (js_ret (je_dn (fun _ => D__law_mixed) (fun _ => hr.mono (by decide)) (fun _ => rfl) (fun _ => psD) (ja_cons (je_int (fun _ => rfl)) (ja_cons (je_v (fun _ => rfl) 1 (fun _ => pv 1)) (ja_nil (fun _ => rfl)))))))
  (js_nil (fun _ => rfl)))
  (js_one (js_ret (je_dn (fun _ => D__law_mixed) (fun _ => hr.mono (by decide)) (fun _ => rfl) (fun _ => psD) (ja_cons (je_ix (je_v (fun _ => rfl) 0 (fun _ => pv 0)) (je_mod (je_v (fun _ => rfl) 1 (fun _ => pv 1)) (je_len (fun _ => rfl) (fun _ => T.z_len) (ja_cons (je_v (fun _ => rfl) 0 (fun _ => pv 0)) (ja_nil (fun _ => rfl))))) (fun _ _ => rfl)) (ja_cons (je_v (fun _ => rfl) 1 (fun _ => pv 1)) (ja_nil (fun _ => rfl)))))))))
theorem sc__law_pieces : FnScope N__law_pieces [PySem.Str.ofString "_law_points"] (defScope s__law_pieces) := ⟨rfl, rfl, rfl, by decide +kernel, rfl, by decide +kernel, by decide +kernel⟩
theorem ok__law_pieces {f : Addr} {fd : FuncData} (F : Fun K "_law_pieces" "_law_pieces" s__law_pieces f fd) (T : Tx K cl mg) : FnG P w K mg base (L2.CX P w) 1 f fd [PySem.Str.ofString "_law_points"] (spM K cl 1 M__law_pieces) :=
  have nd : ∀ _ : Unit, N__law_pieces.Nodup := fun _ => sc__law_pieces.nd
  def_ok F sc__law_pieces (fun cdv A outer s H E hr =>
  (js_cons (js_setF (i := 1) nd (je_srtset (fun _ => rfl) (fun _ => rfl) (fun _ => rfl) (fun _ => T.z_sorted) (fun _ => rfl) (fun _ => T.z_set) (ja_cons (je_v (fun _ => rfl) 0 (fun _ => pv 0)) (ja_nil (fun _ => rfl)))))
  (js_one (js_ret (je_lc [(PySem.Str.ofString "_law_k", 2)] (fun _ => rfl) nd (ji_range3 (fun _ => rfl) (fun _ => T.z_range) (ja_cons (je_int (fun _ => rfl)) (ja_cons (je_sub (je_len (fun _ => rfl) (fun _ => T.z_len) (ja_cons (je_v (fun _ => rfl) 1 (fun _ => pv 1)) (ja_nil (fun _ => rfl)))) (je_int (fun _ => rfl))) (ja_cons (je_int (fun _ => rfl)) (ja_nil (fun _ => rfl)))))) (fun _ => blkOk_by (N := N__law_pieces) (sc := defScope s__law_pieces) (by decide +kernel)) (jg_name (by intro _; exact rfl) 2 (by intro _; exact sc__law_pieces.nd)) (jts_nil (by intro _; exact rfl)) (je_tup (ja_cons (je_ix (je_v (by intro _; exact rfl) 1 (by intro _; exact pv 1)) (je_v (by intro _; exact rfl) 2 (by intro _; exact pv 2)) (by intro _ _; exact rfl)) (ja_cons (je_ix (je_v (by intro _; exact rfl) 1 (by intro _; exact pv 1)) (je_add (je_v (by intro _; exact rfl) 2 (by intro _; exact pv 2)) (je_int (by intro _; exact rfl))) (by intro _ _; exact rfl)) (ja_nil (by intro _; exact rfl))))) (by decide) rfl)))))
theorem sc__law_two : FnScope N__law_two [PySem.Str.ofString "_law_script"] (defScope s__law_two) := ⟨rfl, rfl, rfl, by decide +kernel, rfl, by decide +kernel, by decide +kernel⟩
theorem ok__law_two {f : Addr} {fd : FuncData} (F : Fun K "_law_two" "_law_two" s__law_two f fd) (T : Tx K cl mg) (D__law_number : Dn P w K mg base cl 2 "_law_number" 2 M__law_number) (D__law_mixed : Dn P w K mg base cl 1 "_law_mixed" 2 M__law_mixed) (D__law_pieces : Dn P w K mg base cl 1 "_law_pieces" 1 M__law_pieces) : FnG P w K mg base (L2.CX P w) 3 f fd [PySem.Str.ofString "_law_script"] (spM K cl 1 M__law_two) :=
  have nd : ∀ _ : Unit, N__law_two.Nodup := fun _ => sc__law_two.nd
  def_ok F sc__law_two (fun cdv A outer s H E hr =>
  (js_cons (js_setF (i := 1) nd (je_ix (je_list (jt_cons (je_int (fun _ => rfl)) (jt_cons (je_int (fun _ => rfl)) (jt_cons (je_int (fun _ => rfl)) (jt_cons (je_int (fun _ => rfl)) (jt_nil (fun _ => rfl))))))) (je_mod (je_dn (fun _ => D__law_number) (fun _ => hr.mono (by decide)) (fun _ => rfl) (fun _ => psD) (ja_cons (je_v (fun _ => rfl) 0 (fun _ => pv 0)) (ja_cons (je_int (fun _ => rfl)) (ja_nil (fun _ => rfl))))) (je_int (fun _ => rfl))) (fun _ _ => rfl)))
  (js_cons (js_set (i := 2) nd (je_list (jt_nil (fun _ => rfl))))
  (js_cons (js_set (i := 3) nd (je_list (jt_nil (fun _ => rfl))))
  (js_cons (js_for (fun _ => rfl) (ji_enum (fun _ => rfl) (fun _ => T.z_enumerate) (ja_cons (je_sl (je_v (fun _ => rfl) 0 (fun _ => pv 0)) (jo_none (fun _ => rfl)) (jo_some (je_int (fun _ => rfl)))) (ja_nil (fun _ => rfl)))) (jg_tup (n := 2) (fun _ => rfl) (jgs_cons (jg_name (fun _ => rfl) 4 (fun _ => sc__law_two.nd)) (jgs_cons (jg_name (fun _ => rfl) 5 (fun _ => sc__law_two.nd)) (jgs_nil (fun _ => rfl) (ns := [])))))
  (js_cons (js_setF (i := 6) nd (je_dn (fun _ => D__law_mixed) (fun _ => hr.mono (by decide)) (fun _ => rfl) (fun _ => psD) (ja_cons (je_v (fun _ => rfl) 5 (fun _ => pv 5)) (ja_cons (je_v (fun _ => rfl) 4 (fun _ => pv 4)) (ja_nil (fun _ => rfl))))))
  (js_cons (js_app 2 (fun _ => pv 2) (je_mod (je_v (fun _ => rfl) 6 (fun _ => pv 6)) (je_add (je_v (fun _ => rfl) 1 (fun _ => pv 1)) (je_int (fun _ => rfl)))))
  (js_cons (js_setF (i := 7) nd (je_bw (je_sub (je_add (je_ix (je_v (fun _ => rfl) 2 (fun _ => pv 2)) (je_mod (je_fdiv (je_v (fun _ => rfl) 6 (fun _ => pv 6)) (je_int (fun _ => rfl))) (je_len (fun _ => rfl) (fun _ => T.z_len) (ja_cons (je_v (fun _ => rfl) 2 (fun _ => pv 2)) (ja_nil (fun _ => rfl))))) (fun _ _ => rfl)) (je_mod (je_fdiv (je_v (fun _ => rfl) 6 (fun _ => pv 6)) (je_int (fun _ => rfl))) (je_int (fun _ => rfl)))) (je_int (fun _ => rfl)))))
  (js_one (js_app 3 (fun _ => pv 3) (je_ix (je_list (jt_cons (je_mod (je_fdiv (je_v (fun _ => rfl) 6 (fun _ => pv 6)) (je_int (fun _ => rfl))) (je_add (je_v (fun _ => rfl) 1 (fun _ => pv 1)) (je_int (fun _ => rfl)))) (jt_cons (je_cb (fun _ => call_max2 rfl) sem_max2 (fun _ => rfl) (fun _ => T.z_max) boot_max (ja_cons (je_int (fun _ => rfl)) (ja_cons (je_cb (fun _ => call_min2 rfl) sem_min2 (fun _ => rfl) (fun _ => T.z_min) boot_min (ja_cons (je_v (fun _ => rfl) 1 (fun _ => pv 1)) (ja_cons (je_v (fun _ => rfl) 7 (fun _ => pv 7)) (ja_nil (fun _ => rfl))))) (ja_nil (fun _ => rfl))))) (jt_nil (fun _ => rfl))))) (je_mod (je_fdiv (je_v (fun _ => rfl) 6 (fun _ => pv 6)) (je_int (fun _ => rfl))) (je_int (fun _ => rfl))) (fun _ _ => rfl))))))) (fun _ => passes_of rfl))
  (js_one (js_frz 2 (js_frz 3 (js_ret (je_tup (ja_cons (je_dn (fun _ => D__law_pieces) (fun _ => hr.mono (by decide)) (fun _ => rfl) (fun _ => psD) (ja_cons (je_v (fun _ => rfl) 2 (fun _ => pv 2)) (ja_nil (fun _ => rfl)))) (ja_cons (je_dn (fun _ => D__law_pieces) (fun _ => hr.mono (by decide)) (fun _ => rfl) (fun _ => psD) (ja_cons (je_v (fun _ => rfl) 3 (fun _ => pv 3)) (ja_nil (fun _ => rfl)))) (ja_nil (fun _ => rfl))))))))))))))
theorem sc_is_whole : FnScope N_is_whole [PySem.Str.ofString "thing"] (defScope s_is_whole) := ⟨rfl, rfl, rfl, by decide +kernel, rfl, by decide +kernel, by decide +kernel⟩
theorem ok_is_whole {f : Addr} {fd : FuncData} (F : Fun K "is_whole" "is_whole" s_is_whole f fd) (T : Tx K cl mg) : FnG P w K mg base (L2.CX P w) 1 f fd [PySem.Str.ofString "thing"] (spM K cl 1 M_is_whole) :=
  have nd : ∀ _ : Unit, N_is_whole.Nodup := fun _ => sc_is_whole.nd
  def_ok F sc_is_whole (fun cdv A outer s H E hr =>
  (js_one (js_ret (je_and (je_isi (fun _ => rfl) (fun _ => T.z_isinstance) (ja_cons (je_v (fun _ => rfl) 0 (fun _ => pv 0)) (ja_cons (je_bty (fun _ => rfl) (fun _ => rfl) (fun _ => T.z_int) (by decide +kernel)) (ja_nil (fun _ => rfl))))) (je_one (je_not (je_isi (fun _ => rfl) (fun _ => T.z_isinstance) (ja_cons (je_v (fun _ => rfl) 0 (fun _ => pv 0)) (ja_cons (je_bty (fun _ => rfl) (fun _ => rfl) (fun _ => T.z_bool) (by decide +kernel)) (ja_nil (fun _ => rfl)))))))))))
theorem sc_is_among : FnScope N_is_among [PySem.Str.ofString "thing", PySem.Str.ofString "least", PySem.Str.ofString "most"] (defScope s_is_among) := ⟨rfl, rfl, rfl, by decide +kernel, rfl, by decide +kernel, by decide +kernel⟩
theorem ok_is_among {f : Addr} {fd : FuncData} (F : Fun K "is_among" "is_among" s_is_among f fd) (T : Tx K cl mg) (D_is_whole : Dn P w K mg base cl 1 "is_whole" 1 M_is_whole) : FnG P w K mg base (L2.CX P w) 2 f fd [PySem.Str.ofString "thing", PySem.Str.ofString "least", PySem.Str.ofString "most"] (spM K cl 3 M_is_among) :=
  have nd : ∀ _ : Unit, N_is_among.Nodup := fun _ => sc_is_among.nd
  def_ok F sc_is_among (fun cdv A outer s H E hr =>
  (js_one (js_ret (je_and (je_dn (fun _ => D_is_whole) (fun _ => hr.mono (by decide)) (fun _ => rfl) (fun _ => psD) (ja_cons (je_v (fun _ => rfl) 0 (fun _ => pv 0)) (ja_nil (fun _ => rfl)))) (je_one (je_chain (fun _ => op_le) (fun _ => op_le) (je_v (fun _ => rfl) 1 (fun _ => pv 1)) (je_v (fun _ => rfl) 0 (fun _ => pv 0)) (je_v (fun _ => rfl) 2 (fun _ => pv 2))))))))
theorem sc_is_stretch : FnScope N_is_stretch [PySem.Str.ofString "thing"] (defScope s_is_stretch) := ⟨rfl, rfl, rfl, by decide +kernel, rfl, by decide +kernel, by decide +kernel⟩
theorem ok_is_stretch {f : Addr} {fd : FuncData} (F : Fun K "is_stretch" "is_stretch" s_is_stretch f fd) (T : Tx K cl mg) (D_is_among : Dn P w K mg base cl 2 "is_among" 3 M_is_among) : FnG P w K mg base (L2.CX P w) 3 f fd [PySem.Str.ofString "thing"] (spM K cl 1 M_is_stretch) :=
  have nd : ∀ _ : Unit, N_is_stretch.Nodup := fun _ => sc_is_stretch.nd
  def_ok F sc_is_stretch (fun cdv A outer s H E hr =>
  (js_cons (js_if (jb_w (jw_or (jb_not (jb_tru (je_isi (fun _ => rfl) (fun _ => T.z_isinstance) (ja_cons (je_v (fun _ => rfl) 0 (fun _ => pv 0)) (ja_cons (je_bty (fun _ => rfl) (fun _ => rfl) (fun _ => T.z_tuple) (by decide +kernel)) (ja_nil (fun _ => rfl))))) (fun _ _ => rfl))) (jw_or1 (jb_ne (fun _ => hr.r) (je_len (fun _ => rfl) (fun _ => T.z_len) (ja_cons (je_v (fun _ => rfl) 0 (fun _ => pv 0)) (ja_nil (fun _ => rfl)))) (je_int (fun _ => rfl))))))
  (js_one (js_ret (je_bl (fun _ => rfl))))
  (js_nil (fun _ => rfl)))
  (js_cons (js_asgT (je_v (fun _ => rfl) 0 (fun _ => pv 0)) (jg_tup (n := 2) (fun _ => rfl) (jgs_cons (jg_name (fun _ => rfl) 1 (fun _ => sc_is_stretch.nd)) (jgs_cons (jg_name (fun _ => rfl) 2 (fun _ => sc_is_stretch.nd)) (jgs_nil (fun _ => rfl) (ns := []))))))
  (js_one (js_ret (je_and (je_dn (fun _ => D_is_among) (fun _ => hr.mono (by decide)) (fun _ => rfl) (fun _ => psD) (ja_cons (je_v (fun _ => rfl) 1 (fun _ => pv 1)) (ja_cons (je_int (fun _ => rfl)) (ja_cons (je_gint (fun _ => rfl) (fun _ => rfl) (fun _ => T.c_LAST_MINUTE.choose_spec)) (ja_nil (fun _ => rfl)))))) (je_one (je_dn (fun _ => D_is_among) (fun _ => hr.mono (by decide)) (fun _ => rfl) (fun _ => psD) (ja_cons (je_v (fun _ => rfl) 2 (fun _ => pv 2)) (ja_cons (je_add (je_v (fun _ => rfl) 1 (fun _ => pv 1)) (je_int (fun _ => rfl))) (ja_cons (je_gint (fun _ => rfl) (fun _ => rfl) (fun _ => T.c_LAST_MINUTE.choose_spec)) (ja_nil (fun _ => rfl)))))))))))))
theorem sc_are_stretches : FnScope N_are_stretches [PySem.Str.ofString "thing"] (defScope s_are_stretches) := ⟨rfl, rfl, rfl, by decide +kernel, rfl, by decide +kernel, by decide +kernel⟩
theorem ok_are_stretches {f : Addr} {fd : FuncData} (F : Fun K "are_stretches" "are_stretches" s_are_stretches f fd) (T : Tx K cl mg) (D_is_stretch : Dn P w K mg base cl 3 "is_stretch" 1 M_is_stretch) : FnG P w K mg base (L2.CX P w) 4 f fd [PySem.Str.ofString "thing"] (spM K cl 1 M_are_stretches) :=
  have nd : ∀ _ : Unit, N_are_stretches.Nodup := fun _ => sc_are_stretches.nd
  def_ok F sc_are_stretches (fun cdv A outer s H E hr =>
  (js_cons (js_if (jb_w (jw_or (jb_not (jb_tru (je_isi (fun _ => rfl) (fun _ => T.z_isinstance) (ja_cons (je_v (fun _ => rfl) 0 (fun _ => pv 0)) (ja_cons (je_bty (fun _ => rfl) (fun _ => rfl) (fun _ => T.z_list) (by decide +kernel)) (ja_nil (fun _ => rfl))))) (fun _ _ => rfl))) (jw_or1 (jb_gt (je_len (fun _ => rfl) (fun _ => T.z_len) (ja_cons (je_v (fun _ => rfl) 0 (fun _ => pv 0)) (ja_nil (fun _ => rfl)))) (je_gint (fun _ => rfl) (fun _ => rfl) (fun _ => T.c_MOST_STRETCHES.choose_spec))))))
  (js_one (js_ret (je_bl (fun _ => rfl))))
  (js_nil (fun _ => rfl)))
  (js_cons (js_setF (i := 1) nd (je_neg (je_int (fun _ => rfl))))
  (js_cons (js_for (fun _ => rfl) (ji_seq (je_v (fun _ => rfl) 0 (fun _ => pv 0))) (jg_name (fun _ => rfl) 2 (fun _ => sc_are_stretches.nd))
  (js_cons (js_if (jb_w (jw_or (jb_not (jb_tru (je_dn (fun _ => D_is_stretch) (fun _ => hr.mono (by decide)) (fun _ => rfl) (fun _ => psD) (ja_cons (je_v (fun _ => rfl) 2 (fun _ => pv 2)) (ja_nil (fun _ => rfl)))) (fun _ _ => rfl))) (jw_or1 (jb_le (je_ix (je_v (fun _ => rfl) 2 (fun _ => pv 2)) (je_int (fun _ => rfl)) (fun _ _ => rfl)) (je_v (fun _ => rfl) 1 (fun _ => pv 1))))))
  (js_one (js_ret (je_bl (fun _ => rfl))))
  (js_nil (fun _ => rfl)))
  (js_one (js_setF (i := 1) nd (je_ix (je_v (fun _ => rfl) 2 (fun _ => pv 2)) (je_int (fun _ => rfl)) (fun _ _ => rfl))))) (fun _ => passes_of rfl))
  (js_one (js_ret (je_bl (fun _ => rfl))))))))
theorem sc_need_stretches : FnScope N_need_stretches [PySem.Str.ofString "thing"] (defScope s_need_stretches) := ⟨rfl, rfl, rfl, by decide +kernel, rfl, by decide +kernel, by decide +kernel⟩
theorem ok_need_stretches {f : Addr} {fd : FuncData} (F : Fun K "need_stretches" "need_stretches" s_need_stretches f fd) (T : Tx K cl mg) (D_are_stretches : Dn P w K mg base cl 4 "are_stretches" 1 M_are_stretches) : FnG P w K mg base (L2.CX P w) 5 f fd [PySem.Str.ofString "thing"] (spM K cl 1 M_need_stretches) :=
  have nd : ∀ _ : Unit, N_need_stretches.Nodup := fun _ => sc_need_stretches.nd
  def_ok F sc_need_stretches (fun cdv A outer s H E hr =>
  (js_one (js_if (jb_not (jb_tru (je_dn (fun _ => D_are_stretches) (fun _ => hr.mono (by decide)) (fun _ => rfl) (fun _ => psD) (ja_cons (je_v (fun _ => rfl) 0 (fun _ => pv 0)) (ja_nil (fun _ => rfl)))) (fun _ _ => rfl)))
  (js_one (js_never (fun _ => rfl)))
  (js_nil (fun _ => rfl)))))
theorem sc_overlaps : FnScope N_overlaps [PySem.Str.ofString "one", PySem.Str.ofString "other"] (defScope s_overlaps) := ⟨rfl, rfl, rfl, by decide +kernel, rfl, by decide +kernel, by decide +kernel⟩
theorem ok_overlaps {f : Addr} {fd : FuncData} (F : Fun K "overlaps" "overlaps" s_overlaps f fd) (T : Tx K cl mg) : FnG P w K mg base (L2.CX P w) 1 f fd [PySem.Str.ofString "one", PySem.Str.ofString "other"] (spM K cl 2 M_overlaps) :=
  have nd : ∀ _ : Unit, N_overlaps.Nodup := fun _ => sc_overlaps.nd
  def_ok F sc_overlaps (fun cdv A outer s H E hr =>
  (js_cons (js_set (i := 2) nd (je_list (jt_nil (fun _ => rfl))))
  (js_cons (js_setF (i := 3) nd (je_int (fun _ => rfl)))
  (js_cons (js_setF (i := 4) nd (je_int (fun _ => rfl)))
  (js_cons (js_while 1000000000000 (jb_w (jw_and (jb_lt (je_v (fun _ => rfl) 3 (fun _ => pv 3)) (je_len (fun _ => rfl) (fun _ => T.z_len) (ja_cons (je_v (fun _ => rfl) 0 (fun _ => pv 0)) (ja_nil (fun _ => rfl))))) (jw_and1 (jb_lt (je_v (fun _ => rfl) 4 (fun _ => pv 4)) (je_len (fun _ => rfl) (fun _ => T.z_len) (ja_cons (je_v (fun _ => rfl) 1 (fun _ => pv 1)) (ja_nil (fun _ => rfl))))))))
  (js_cons (js_setF (i := 5) nd (je_cb (fun _ => call_max2 rfl) sem_max2 (fun _ => rfl) (fun _ => T.z_max) boot_max (ja_cons (je_ix (je_ix (je_v (fun _ => rfl) 0 (fun _ => pv 0)) (je_v (fun _ => rfl) 3 (fun _ => pv 3)) (fun _ _ => rfl)) (je_int (fun _ => rfl)) (fun _ _ => rfl)) (ja_cons (je_ix (je_ix (je_v (fun _ => rfl) 1 (fun _ => pv 1)) (je_v (fun _ => rfl) 4 (fun _ => pv 4)) (fun _ _ => rfl)) (je_int (fun _ => rfl)) (fun _ _ => rfl)) (ja_nil (fun _ => rfl))))))
  (js_cons (js_setF (i := 6) nd (je_cb (fun _ => call_min2 rfl) sem_min2 (fun _ => rfl) (fun _ => T.z_min) boot_min (ja_cons (je_ix (je_ix (je_v (fun _ => rfl) 0 (fun _ => pv 0)) (je_v (fun _ => rfl) 3 (fun _ => pv 3)) (fun _ _ => rfl)) (je_int (fun _ => rfl)) (fun _ _ => rfl)) (ja_cons (je_ix (je_ix (je_v (fun _ => rfl) 1 (fun _ => pv 1)) (je_v (fun _ => rfl) 4 (fun _ => pv 4)) (fun _ _ => rfl)) (je_int (fun _ => rfl)) (fun _ _ => rfl)) (ja_nil (fun _ => rfl))))))
  (js_cons (js_if (jb_lt (je_v (fun _ => rfl) 5 (fun _ => pv 5)) (je_v (fun _ => rfl) 6 (fun _ => pv 6)))
  (js_one (js_app 2 (fun _ => pv 2) (je_tup (ja_cons (je_v (fun _ => rfl) 5 (fun _ => pv 5)) (ja_cons (je_v (fun _ => rfl) 6 (fun _ => pv 6)) (ja_nil (fun _ => rfl)))))))
  (js_nil (fun _ => rfl)))
  (js_one (js_if (jb_le (je_ix (je_ix (je_v (fun _ => rfl) 0 (fun _ => pv 0)) (je_v (fun _ => rfl) 3 (fun _ => pv 3)) (fun _ _ => rfl)) (je_int (fun _ => rfl)) (fun _ _ => rfl)) (je_ix (je_ix (je_v (fun _ => rfl) 1 (fun _ => pv 1)) (je_v (fun _ => rfl) 4 (fun _ => pv 4)) (fun _ _ => rfl)) (je_int (fun _ => rfl)) (fun _ _ => rfl)))
  (js_one (js_aug (i := 3) (fun _ => iop_add) sem_addI nd (je_int (fun _ => rfl))))
  (js_one (js_aug (i := 4) (fun _ => iop_add) sem_addI nd (je_int (fun _ => rfl))))))))) (fun _ => passes_of rfl))
  (js_one (js_retV (fun _ => rfl) 2 (fun _ => pv 2))))))))
theorem sc_gaps : FnScope N_gaps [PySem.Str.ofString "one", PySem.Str.ofString "first", PySem.Str.ofString "last"] (defScope s_gaps) := ⟨rfl, rfl, rfl, by decide +kernel, rfl, by decide +kernel, by decide +kernel⟩
theorem ok_gaps {f : Addr} {fd : FuncData} (F : Fun K "gaps" "gaps" s_gaps f fd) (T : Tx K cl mg) : FnG P w K mg base (L2.CX P w) 1 f fd [PySem.Str.ofString "one", PySem.Str.ofString "first", PySem.Str.ofString "last"] (spM K cl 3 M_gaps) :=
  have nd : ∀ _ : Unit, N_gaps.Nodup := fun _ => sc_gaps.nd
  def_ok F sc_gaps (fun cdv A outer s H E hr =>
  (js_cons (js_setF (i := 3) nd (je_add (je_list (jt_cons (je_v (fun _ => rfl) 1 (fun _ => pv 1)) (jt_nil (fun _ => rfl)))) (je_lc [(PySem.Str.ofString "_", 5), (PySem.Str.ofString "behind", 6)] (fun _ => rfl) nd (ji_seq (je_v (fun _ => rfl) 0 (fun _ => pv 0))) (fun _ => blkOk_by (N := N_gaps) (sc := defScope s_gaps) (by decide +kernel)) (jg_tup (n := 2) (by intro _; exact rfl) (jgs_cons (jg_name (by intro _; exact rfl) 5 (by intro _; exact sc_gaps.nd)) (jgs_cons (jg_name (by intro _; exact rfl) 6 (by intro _; exact sc_gaps.nd)) (jgs_nil (by intro _; exact rfl) (ns := []))))) (jts_nil (by intro _; exact rfl)) (je_v (by intro _; exact rfl) 6 (by intro _; exact pv 6)) (by decide) rfl)))
  (js_cons (js_setF (i := 4) nd (je_add (je_lc [(PySem.Str.ofString "begin", 7), (PySem.Str.ofString "_", 5)] (fun _ => rfl) nd (ji_seq (je_v (fun _ => rfl) 0 (fun _ => pv 0))) (fun _ => blkOk_by (N := N_gaps) (sc := defScope s_gaps) (by decide +kernel)) (jg_tup (n := 2) (by intro _; exact rfl) (jgs_cons (jg_name (by intro _; exact rfl) 7 (by intro _; exact sc_gaps.nd)) (jgs_cons (jg_name (by intro _; exact rfl) 5 (by intro _; exact sc_gaps.nd)) (jgs_nil (by intro _; exact rfl) (ns := []))))) (jts_nil (by intro _; exact rfl)) (je_v (by intro _; exact rfl) 7 (by intro _; exact pv 7)) (by decide) rfl) (je_list (jt_cons (je_v (fun _ => rfl) 2 (fun _ => pv 2)) (jt_nil (fun _ => rfl))))))
  (js_one (js_ret (je_zipl (fun _ => rfl) (fun _ => rfl) (fun _ => T.z_list) (fun _ => rfl) (fun _ => T.z_zip) (ja_cons (je_v (fun _ => rfl) 3 (fun _ => pv 3)) (ja_cons (je_v (fun _ => rfl) 4 (fun _ => pv 4)) (ja_nil (fun _ => rfl))))))))))
theorem sc_without : FnScope N_without [PySem.Str.ofString "one", PySem.Str.ofString "other"] (defScope s_without) := ⟨rfl, rfl, rfl, by decide +kernel, rfl, by decide +kernel, by decide +kernel⟩
theorem ok_without {f : Addr} {fd : FuncData} (F : Fun K "without" "without" s_without f fd) (T : Tx K cl mg) (D_need_stretches : Dn P w K mg base cl 5 "need_stretches" 1 M_need_stretches) (D_overlaps : Dn P w K mg base cl 1 "overlaps" 2 M_overlaps) (D_gaps : Dn P w K mg base cl 1 "gaps" 3 M_gaps) : FnG P w K mg base (L2.CX P w) 6 f fd [PySem.Str.ofString "one", PySem.Str.ofString "other"] (spM K cl 2 M_without) :=
  have nd : ∀ _ : Unit, N_without.Nodup := fun _ => sc_without.nd
  def_ok F sc_without (fun cdv A outer s H E hr =>
  (js_cons (js_expr (je_dn (fun _ => D_need_stretches) (fun _ => hr.mono (by decide)) (fun _ => rfl) (fun _ => psD) (ja_cons (je_v (fun _ => rfl) 0 (fun _ => pv 0)) (ja_nil (fun _ => rfl)))))
  (js_cons (js_expr (je_dn (fun _ => D_need_stretches) (fun _ => hr.mono (by decide)) (fun _ => rfl) (fun _ => psD) (ja_cons (je_v (fun _ => rfl) 1 (fun _ => pv 1)) (ja_nil (fun _ => rfl)))))
  (js_one (js_ret (je_dn (fun _ => D_overlaps) (fun _ => hr.mono (by decide)) (fun _ => rfl) (fun _ => psD) (ja_cons (je_v (fun _ => rfl) 0 (fun _ => pv 0)) (ja_cons (je_dn (fun _ => D_gaps) (fun _ => hr.mono (by decide)) (fun _ => rfl) (fun _ => psD) (ja_cons (je_v (fun _ => rfl) 1 (fun _ => pv 1)) (ja_cons (je_int (fun _ => rfl)) (ja_cons (je_gint (fun _ => rfl) (fun _ => rfl) (fun _ => T.c_LAST_MINUTE.choose_spec)) (ja_nil (fun _ => rfl)))))) (ja_nil (fun _ => rfl))))))))))
theorem sc_met : FnScope N_met [PySem.Str.ofString "one", PySem.Str.ofString "other"] (defScope s_met) := ⟨rfl, rfl, rfl, by decide +kernel, rfl, by decide +kernel, by decide +kernel⟩
theorem ok_met {f : Addr} {fd : FuncData} (F : Fun K "met" "met" s_met f fd) (T : Tx K cl mg) (D_need_stretches : Dn P w K mg base cl 5 "need_stretches" 1 M_need_stretches) (D_overlaps : Dn P w K mg base cl 1 "overlaps" 2 M_overlaps) : FnG P w K mg base (L2.CX P w) 6 f fd [PySem.Str.ofString "one", PySem.Str.ofString "other"] (spM K cl 2 M_met) :=
  have nd : ∀ _ : Unit, N_met.Nodup := fun _ => sc_met.nd
  def_ok F sc_met (fun cdv A outer s H E hr =>
  (js_cons (js_expr (je_dn (fun _ => D_need_stretches) (fun _ => hr.mono (by decide)) (fun _ => rfl) (fun _ => psD) (ja_cons (je_v (fun _ => rfl) 0 (fun _ => pv 0)) (ja_nil (fun _ => rfl)))))
  (js_cons (js_expr (je_dn (fun _ => D_need_stretches) (fun _ => hr.mono (by decide)) (fun _ => rfl) (fun _ => psD) (ja_cons (je_v (fun _ => rfl) 1 (fun _ => pv 1)) (ja_nil (fun _ => rfl)))))
  (js_one (js_ret (je_dn (fun _ => D_overlaps) (fun _ => hr.mono (by decide)) (fun _ => rfl) (fun _ => psD) (ja_cons (je_v (fun _ => rfl) 0 (fun _ => pv 0)) (ja_cons (je_v (fun _ => rfl) 1 (fun _ => pv 1)) (ja_nil (fun _ => rfl))))))))))
theorem sc_joined : FnScope N_joined [PySem.Str.ofString "one", PySem.Str.ofString "other"] (defScope s_joined) := ⟨rfl, rfl, rfl, by decide +kernel, rfl, by decide +kernel, by decide +kernel⟩
theorem ok_joined {f : Addr} {fd : FuncData} (F : Fun K "joined" "joined" s_joined f fd) (T : Tx K cl mg) (D_need_stretches : Dn P w K mg base cl 5 "need_stretches" 1 M_need_stretches) : FnG P w K mg base (L2.CX P w) 6 f fd [PySem.Str.ofString "one", PySem.Str.ofString "other"] (spM K cl 2 M_joined) :=
  have nd : ∀ _ : Unit, N_joined.Nodup := fun _ => sc_joined.nd
  def_ok F sc_joined (fun cdv A outer s H E hr =>
  (js_cons (js_expr (je_dn (fun _ => D_need_stretches) (fun _ => hr.mono (by decide)) (fun _ => rfl) (fun _ => psD) (ja_cons (je_v (fun _ => rfl) 0 (fun _ => pv 0)) (ja_nil (fun _ => rfl)))))
  (js_cons (js_expr (je_dn (fun _ => D_need_stretches) (fun _ => hr.mono (by decide)) (fun _ => rfl) (fun _ => psD) (ja_cons (je_v (fun _ => rfl) 1 (fun _ => pv 1)) (ja_nil (fun _ => rfl)))))
  (js_cons (js_set (i := 2) nd (je_list (jt_nil (fun _ => rfl))))
  (js_cons (js_for (fun _ => rfl) (ji_seq (je_sorted (fun _ => hr.r) (fun _ => rfl) (fun _ => T.z_sorted) (ja_cons (je_add (je_v (fun _ => rfl) 0 (fun _ => pv 0)) (je_v (fun _ => rfl) 1 (fun _ => pv 1))) (ja_nil (fun _ => rfl))))) (jg_tup (n := 2) (fun _ => rfl) (jgs_cons (jg_name (fun _ => rfl) 3 (fun _ => sc_joined.nd)) (jgs_cons (jg_name (fun _ => rfl) 4 (fun _ => sc_joined.nd)) (jgs_nil (fun _ => rfl) (ns := [])))))
  (js_one (js_if (jb_bw (jb_w (jw_and (jb_tru (je_v (fun _ => rfl) 2 (fun _ => pv 2)) (fun _ _ => rfl)) (jw_and1 (jb_le (je_v (fun _ => rfl) 3 (fun _ => pv 3)) (je_ix (je_ix (je_v (fun _ => rfl) 2 (fun _ => pv 2)) (je_neg (je_int (fun _ => rfl))) (fun _ _ => rfl)) (je_int (fun _ => rfl)) (fun _ _ => rfl)))))))
  (js_one (js_seti 2 (fun _ => pv 2) (je_neg (je_int (fun _ => rfl))) (je_bw (je_tup (ja_cons (je_ix (je_ix (je_v (fun _ => rfl) 2 (fun _ => pv 2)) (je_neg (je_int (fun _ => rfl))) (fun _ _ => rfl)) (je_int (fun _ => rfl)) (fun _ _ => rfl)) (ja_cons (je_cb (fun _ => call_max2 rfl) sem_max2 (fun _ => rfl) (fun _ => T.z_max) boot_max (ja_cons (je_ix (je_ix (je_v (fun _ => rfl) 2 (fun _ => pv 2)) (je_neg (je_int (fun _ => rfl))) (fun _ _ => rfl)) (je_int (fun _ => rfl)) (fun _ _ => rfl)) (ja_cons (je_v (fun _ => rfl) 4 (fun _ => pv 4)) (ja_nil (fun _ => rfl))))) (ja_nil (fun _ => rfl))))))))
  (js_one (js_app 2 (fun _ => pv 2) (je_tup (ja_cons (je_v (fun _ => rfl) 3 (fun _ => pv 3)) (ja_cons (je_v (fun _ => rfl) 4 (fun _ => pv 4)) (ja_nil (fun _ => rfl))))))))) (fun _ => passes_of rfl))
  (js_one (js_retV (fun _ => rfl) 2 (fun _ => pv 2))))))))
theorem sc__law_by : FnScope N__law_by [PySem.Str.ofString "_law_one", PySem.Str.ofString "_law_other", PySem.Str.ofString "_law_wanted"] (defScope s__law_by) := ⟨rfl, rfl, rfl, by decide +kernel, rfl, by decide +kernel, by decide +kernel⟩
theorem ok__law_by {f : Addr} {fd : FuncData} (F : Fun K "_law_by" "_law_by" s__law_by f fd) (T : Tx K cl mg) : FnG P w K mg base (L2.CX P w) 1 f fd [PySem.Str.ofString "_law_one", PySem.Str.ofString "_law_other", PySem.Str.ofString "_law_wanted"] (spM K cl 3 M__law_by) :=
  have nd : ∀ _ : Unit, N__law_by.Nodup := fun _ => sc__law_by.nd
  def_ok F sc__law_by (fun cdv A outer s H E hr =>
  (js_cons (js_setF (i := 3) nd (je_add (je_lc [(PySem.Str.ofString "_law_begin", 11), (PySem.Str.ofString "_law_behind", 12)] (fun _ => rfl) nd (ji_seq (je_v (fun _ => rfl) 0 (fun _ => pv 0))) (fun _ => blkOk_by (N := N__law_by) (sc := defScope s__law_by) (by decide +kernel)) (jg_tup (n := 2) (by intro _; exact rfl) (jgs_cons (jg_name (by intro _; exact rfl) 11 (by intro _; exact sc__law_by.nd)) (jgs_cons (jg_name (by intro _; exact rfl) 12 (by intro _; exact sc__law_by.nd)) (jgs_nil (by intro _; exact rfl) (ns := []))))) (jts_nil (by intro _; exact rfl)) (je_tup (ja_cons (je_v (by intro _; exact rfl) 11 (by intro _; exact pv 11)) (ja_cons (je_int (by intro _; exact rfl)) (ja_cons (je_int (by intro _; exact rfl)) (ja_nil (by intro _; exact rfl)))))) (by decide) rfl) (je_lc [(PySem.Str.ofString "_law_begin", 11), (PySem.Str.ofString "_law_behind", 12)] (fun _ => rfl) nd (ji_seq (je_v (fun _ => rfl) 0 (fun _ => pv 0))) (fun _ => blkOk_by (N := N__law_by) (sc := defScope s__law_by) (by decide +kernel)) (jg_tup (n := 2) (by intro _; exact rfl) (jgs_cons (jg_name (by intro _; exact rfl) 11 (by intro _; exact sc__law_by.nd)) (jgs_cons (jg_name (by intro _; exact rfl) 12 (by intro _; exact sc__law_by.nd)) (jgs_nil (by intro _; exact rfl) (ns := []))))) (jts_nil (by intro _; exact rfl)) (je_tup (ja_cons (je_v (by intro _; exact rfl) 12 (by intro _; exact pv 12)) (ja_cons (je_int (by intro _; exact rfl)) (ja_cons (je_int (by intro _; exact rfl)) (ja_nil (by intro _; exact rfl)))))) (by decide) rfl)))
  (js_cons (js_setF (i := 3) nd (je_sorted (fun _ => hr.r) (fun _ => rfl) (fun _ => T.z_sorted) (ja_cons (je_add (je_add (je_v (fun _ => rfl) 3 (fun _ => pv 3)) (je_lc [(PySem.Str.ofString "_law_begin", 11), (PySem.Str.ofString "_law_behind", 12)] (fun _ => rfl) nd (ji_seq (je_v (fun _ => rfl) 1 (fun _ => pv 1))) (fun _ => blkOk_by (N := N__law_by) (sc := defScope s__law_by) (by decide +kernel)) (jg_tup (n := 2) (by intro _; exact rfl) (jgs_cons (jg_name (by intro _; exact rfl) 11 (by intro _; exact sc__law_by.nd)) (jgs_cons (jg_name (by intro _; exact rfl) 12 (by intro _; exact sc__law_by.nd)) (jgs_nil (by intro _; exact rfl) (ns := []))))) (jts_nil (by intro _; exact rfl)) (je_tup (ja_cons (je_v (by intro _; exact rfl) 11 (by intro _; exact pv 11)) (ja_cons (je_int (by intro _; exact rfl)) (ja_cons (je_int (by intro _; exact rfl)) (ja_nil (by intro _; exact rfl)))))) (by decide) rfl)) (je_lc [(PySem.Str.ofString "_law_begin", 11), (PySem.Str.ofString "_law_behind", 12)] (fun _ => rfl) nd (ji_seq (je_v (fun _ => rfl) 1 (fun _ => pv 1))) (fun _ => blkOk_by (N := N__law_by) (sc := defScope s__law_by) (by decide +kernel)) (jg_tup (n := 2) (by intro _; exact rfl) (jgs_cons (jg_name (by intro _; exact rfl) 11 (by intro _; exact sc__law_by.nd)) (jgs_cons (jg_name (by intro _; exact rfl) 12 (by intro _; exact sc__law_by.nd)) (jgs_nil (by intro _; exact rfl) (ns := []))))) (jts_nil (by intro _; exact rfl)) (je_tup (ja_cons (je_v (by intro _; exact rfl) 12 (by intro _; exact pv 12)) (ja_cons (je_int (by intro _; exact rfl)) (ja_cons (je_int (by intro _; exact rfl)) (ja_nil (by intro _; exact rfl)))))) (by decide) rfl)) (ja_nil (fun _ => rfl)))))
  (js_cons (js_set (i := 4) nd (je_list (jt_cons (je_int (fun _ => rfl)) (jt_cons (je_int (fun _ => rfl)) (jt_nil (fun _ => rfl))))))
  (js_cons (js_set (i := 5) nd (je_list (jt_nil (fun _ => rfl))))
  (js_cons (js_for (fun _ => rfl) (ji_enum (fun _ => rfl) (fun _ => T.z_enumerate) (ja_cons (je_v (fun _ => rfl) 3 (fun _ => pv 3)) (ja_nil (fun _ => rfl)))) (jg_tup (n := 2) (fun _ => rfl) (jgs_cons (jg_name (fun _ => rfl) 6 (fun _ => sc__law_by.nd)) (jgs_cons (jg_tup (n := 3) (fun _ => rfl) (jgs_cons (jg_name (fun _ => rfl) 7 (fun _ => sc__law_by.nd)) (jgs_cons (jg_name (fun _ => rfl) 8 (fun _ => sc__law_by.nd)) (jgs_cons (jg_name (fun _ => rfl) 9 (fun _ => sc__law_by.nd)) (jgs_nil (fun _ => rfl) (ns := [])))))) (jgs_nil (fun _ => rfl) (ns := [])))))
  (js_cons (js_seti 4 (fun _ => pv 4) (je_v (fun _ => rfl) 8 (fun _ => pv 8)) (je_v (fun _ => rfl) 9 (fun _ => pv 9)))
  (js_cons (js_setF (i := 10) nd (je_eq (fun _ => hr.r) (je_add (je_v (fun _ => rfl) 6 (fun _ => pv 6)) (je_int (fun _ => rfl))) (je_len (fun _ => rfl) (fun _ => T.z_len) (ja_cons (je_v (fun _ => rfl) 3 (fun _ => pv 3)) (ja_nil (fun _ => rfl))))))
  (js_one (js_if (jb_bw (jb_w (jw_and (jb_not (jb_tru (je_v (fun _ => rfl) 10 (fun _ => pv 10)) (fun _ _ => rfl))) (jw_and (jb_gt (je_ix (je_ix (je_v (fun _ => rfl) 3 (fun _ => pv 3)) (je_add (je_v (fun _ => rfl) 6 (fun _ => pv 6)) (je_int (fun _ => rfl))) (fun _ _ => rfl)) (je_int (fun _ => rfl)) (fun _ _ => rfl)) (je_v (fun _ => rfl) 7 (fun _ => pv 7))) (jw_and1 (jb_in (fun _ => hr.r) (je_tup (ja_cons (je_ix (je_v (fun _ => rfl) 4 (fun _ => pv 4)) (je_int (fun _ => rfl)) (fun _ _ => rfl)) (ja_cons (je_ix (je_v (fun _ => rfl) 4 (fun _ => pv 4)) (je_int (fun _ => rfl)) (fun _ _ => rfl)) (ja_nil (fun _ => rfl))))) (je_v (fun _ => rfl) 2 (fun _ => pv 2))))))))
  (js_one (js_if (jb_bw (jb_w (jw_and (jb_ne (fun _ => hr.r) (je_v (fun _ => rfl) 5 (fun _ => pv 5)) (je_list (jt_nil (fun _ => rfl)))) (jw_and1 (jb_eq (fun _ => hr.r) (je_ix (je_ix (je_v (fun _ => rfl) 5 (fun _ => pv 5)) (je_neg (je_int (fun _ => rfl))) (fun _ _ => rfl)) (je_int (fun _ => rfl)) (fun _ _ => rfl)) (je_v (fun _ => rfl) 7 (fun _ => pv 7)))))))
  (js_one (js_seti 5 (fun _ => pv 5) (je_neg (je_int (fun _ => rfl))) (je_bw (je_tup (ja_cons (je_ix (je_ix (je_v (fun _ => rfl) 5 (fun _ => pv 5)) (je_neg (je_int (fun _ => rfl))) (fun _ _ => rfl)) (je_int (fun _ => rfl)) (fun _ _ => rfl)) (ja_cons (je_ix (je_ix (je_v (fun _ => rfl) 3 (fun _ => pv 3)) (je_add (je_v (fun _ => rfl) 6 (fun _ => pv 6)) (je_int (fun _ => rfl))) (fun _ _ => rfl)) (je_int (fun _ => rfl)) (fun _ _ => rfl)) (ja_nil (fun _ => rfl))))))))
  (js_one (js_app 5 (fun _ => pv 5) (je_tup (ja_cons (je_v (fun _ => rfl) 7 (fun _ => pv 7)) (ja_cons (je_ix (je_ix (je_v (fun _ => rfl) 3 (fun _ => pv 3)) (je_add (je_v (fun _ => rfl) 6 (fun _ => pv 6)) (je_int (fun _ => rfl))) (fun _ _ => rfl)) (je_int (fun _ => rfl)) (fun _ _ => rfl)) (ja_nil (fun _ => rfl)))))))))
  (js_nil (fun _ => rfl)))))) (fun _ => passes_of rfl))
  (js_one (js_retV (fun _ => rfl) 5 (fun _ => pv 5)))))))))
theorem sc__law_are : FnScope N__law_are [PySem.Str.ofString "_law_found", PySem.Str.ofString "_law_due"] (defScope s__law_are) := ⟨rfl, rfl, rfl, by decide +kernel, rfl, by decide +kernel, by decide +kernel⟩
theorem ok__law_are {f : Addr} {fd : FuncData} (F : Fun K "_law_are" "_law_are" s__law_are f fd) (T : Tx K cl mg) : FnG P w K mg base (L2.CX P w) 1 f fd [PySem.Str.ofString "_law_found", PySem.Str.ofString "_law_due"] (spM K cl 2 M__law_are) :=
  have nd : ∀ _ : Unit, N__law_are.Nodup := fun _ => sc__law_are.nd
  def_ok F sc__law_are (fun cdv A outer s H E hr =>
  (js_cons (js_if (jb_w (jw_or (jb_not (jb_tru (je_isi (fun _ => rfl) (fun _ => T.z_isinstance) (ja_cons (je_v (fun _ => rfl) 0 (fun _ => pv 0)) (ja_cons (je_bty (fun _ => rfl) (fun _ => rfl) (fun _ => T.z_list) (by decide +kernel)) (ja_nil (fun _ => rfl))))) (fun _ _ => rfl))) (jw_or1 (jb_ne (fun _ => hr.r) (je_v (fun _ => rfl) 0 (fun _ => pv 0)) (je_v (fun _ => rfl) 1 (fun _ => pv 1))))))
  (js_one (js_ret (je_bl (fun _ => rfl))))
  (js_nil (fun _ => rfl)))
  (js_cons (js_for (fun _ => rfl) (ji_seq (je_v (fun _ => rfl) 0 (fun _ => pv 0))) (jg_name (fun _ => rfl) 2 (fun _ => sc__law_are.nd))
  (js_one (js_if (jb_w (jw_or (jb_not (jb_tru (je_isi (fun _ => rfl) (fun _ => T.z_isinstance) (ja_cons (je_v (fun _ => rfl) 2 (fun _ => pv 2)) (ja_cons (je_bty (fun _ => rfl) (fun _ => rfl) (fun _ => T.z_tuple) (by decide +kernel)) (ja_nil (fun _ => rfl))))) (fun _ _ => rfl))) (jw_or (jb_tru (je_isi (fun _ => rfl) (fun _ => T.z_isinstance) (ja_cons (je_ix (je_v (fun _ => rfl) 2 (fun _ => pv 2)) (je_int (fun _ => rfl)) (fun _ _ => rfl)) (ja_cons (je_bty (fun _ => rfl) (fun _ => rfl) (fun _ => T.z_bool) (by decide +kernel)) (ja_nil (fun _ => rfl))))) (fun _ _ => rfl)) (jw_or1 (jb_tru (je_isi (fun _ => rfl) (fun _ => T.z_isinstance) (ja_cons (je_ix (je_v (fun _ => rfl) 2 (fun _ => pv 2)) (je_int (fun _ => rfl)) (fun _ _ => rfl)) (ja_cons (je_bty (fun _ => rfl) (fun _ => rfl) (fun _ => T.z_bool) (by decide +kernel)) (ja_nil (fun _ => rfl))))) (fun _ _ => rfl))))))
  (js_one (js_ret (je_bl (fun _ => rfl))))
  (js_nil (fun _ => rfl)))) (fun _ => passes_of rfl))
  (js_one (js_ret (je_bl (fun _ => rfl)))))))
theorem sc__law_right : FnScope N__law_right [PySem.Str.ofString "_law_one", PySem.Str.ofString "_law_other"] (defScope s__law_right) := ⟨rfl, rfl, rfl, by decide +kernel, rfl, by decide +kernel, by decide +kernel⟩
theorem ok__law_right {f : Addr} {fd : FuncData} (F : Fun K "_law_right" "_law_right" s__law_right f fd) (T : Tx K cl mg) (D_without : Dn P w K mg base cl 6 "without" 2 M_without) (D_met : Dn P w K mg base cl 6 "met" 2 M_met) (D_joined : Dn P w K mg base cl 6 "joined" 2 M_joined) (D__law_by : Dn P w K mg base cl 1 "_law_by" 3 M__law_by) (D__law_are : Dn P w K mg base cl 1 "_law_are" 2 M__law_are) : FnG P w K mg base (L2.CX P w) 7 f fd [PySem.Str.ofString "_law_one", PySem.Str.ofString "_law_other"] (spM K cl 2 M__law_right) :=
  have nd : ∀ _ : Unit, N__law_right.Nodup := fun _ => sc__law_right.nd
  def_ok F sc__law_right (fun cdv A outer s H E hr =>
  (js_cons (js_setF (i := 2) nd (je_list (jt_cons (je_ct (fun _ => call_list_of) sem_list1 (fun _ => rfl) (fun _ => T.z_list) (by decide +kernel) (ja_cons (je_v (fun _ => rfl) 0 (fun _ => pv 0)) (ja_nil (fun _ => rfl)))) (jt_cons (je_ct (fun _ => call_list_of) sem_list1 (fun _ => rfl) (fun _ => T.z_list) (by decide +kernel) (ja_cons (je_v (fun _ => rfl) 1 (fun _ => pv 1)) (ja_nil (fun _ => rfl)))) (jt_nil (fun _ => rfl))))))
  (js_cons (js_for (fun _ => rfl) (ji_range1 (fun _ => rfl) (fun _ => T.z_range) (ja_cons (je_int (fun _ => rfl)) (ja_nil (fun _ => rfl)))) (jg_name (fun _ => rfl) 3 (fun _ => sc__law_right.nd))
  (js_cons (js_set (i := 4) nd (je_list (jt_cons (je_dn (fun _ => D_joined) (fun _ => hr.mono (by decide)) (fun _ => rfl) (fun _ => psD) (ja_cons (je_ix (je_v (fun _ => rfl) 2 (fun _ => pv 2)) (je_int (fun _ => rfl)) (fun _ _ => rfl)) (ja_cons (je_ix (je_v (fun _ => rfl) 2 (fun _ => pv 2)) (je_int (fun _ => rfl)) (fun _ _ => rfl)) (ja_nil (fun _ => rfl))))) (jt_cons (je_dn (fun _ => D_met) (fun _ => hr.mono (by decide)) (fun _ => rfl) (fun _ => psD) (ja_cons (je_ix (je_v (fun _ => rfl) 2 (fun _ => pv 2)) (je_int (fun _ => rfl)) (fun _ _ => rfl)) (ja_cons (je_ix (je_v (fun _ => rfl) 2 (fun _ => pv 2)) (je_int (fun _ => rfl)) (fun _ _ => rfl)) (ja_nil (fun _ => rfl))))) (jt_cons (je_dn (fun _ => D_without) (fun _ => hr.mono (by decide)) (fun _ => rfl) (fun _ => psD) (ja_cons (je_ix (je_v (fun _ => rfl) 2 (fun _ => pv 2)) (je_int (fun _ => rfl)) (fun _ _ => rfl)) (ja_cons (je_ix (je_v (fun _ => rfl) 2 (fun _ => pv 2)) (je_int (fun _ => rfl)) (fun _ _ => rfl)) (ja_nil (fun _ => rfl))))) (jt_nil (fun _ => rfl)))))))
  (js_cons (js_set (i := 5) nd (je_list (jt_cons (je_dn (fun _ => D__law_by) (fun _ => hr.mono (by decide)) (fun _ => rfl) (fun _ => psD) (ja_cons (je_v (fun _ => rfl) 0 (fun _ => pv 0)) (ja_cons (je_v (fun _ => rfl) 1 (fun _ => pv 1)) (ja_cons (je_list (jt_cons (je_tup (ja_cons (je_int (fun _ => rfl)) (ja_cons (je_int (fun _ => rfl)) (ja_nil (fun _ => rfl))))) (jt_cons (je_tup (ja_cons (je_int (fun _ => rfl)) (ja_cons (je_int (fun _ => rfl)) (ja_nil (fun _ => rfl))))) (jt_cons (je_tup (ja_cons (je_int (fun _ => rfl)) (ja_cons (je_int (fun _ => rfl)) (ja_nil (fun _ => rfl))))) (jt_nil (fun _ => rfl)))))) (ja_nil (fun _ => rfl)))))) (jt_cons (je_dn (fun _ => D__law_by) (fun _ => hr.mono (by decide)) (fun _ => rfl) (fun _ => psD) (ja_cons (je_v (fun _ => rfl) 0 (fun _ => pv 0)) (ja_cons (je_v (fun _ => rfl) 1 (fun _ => pv 1)) (ja_cons (je_list (jt_cons (je_tup (ja_cons (je_int (fun _ => rfl)) (ja_cons (je_int (fun _ => rfl)) (ja_nil (fun _ => rfl))))) (jt_nil (fun _ => rfl)))) (ja_nil (fun _ => rfl)))))) (jt_nil (fun _ => rfl))))))
  (js_cons (js_app 5 (fun _ => pv 5) (je_dn (fun _ => D__law_by) (fun _ => hr.mono (by decide)) (fun _ => rfl) (fun _ => psD) (ja_cons (je_v (fun _ => rfl) 0 (fun _ => pv 0)) (ja_cons (je_v (fun _ => rfl) 1 (fun _ => pv 1)) (ja_cons (je_list (jt_cons (je_tup (ja_cons (je_int (fun _ => rfl)) (ja_cons (je_int (fun _ => rfl)) (ja_nil (fun _ => rfl))))) (jt_nil (fun _ => rfl)))) (ja_nil (fun _ => rfl)))))))
  (js_one (js_for (fun _ => rfl) (ji_range1 (fun _ => rfl) (fun _ => T.z_range) (ja_cons (je_int (fun _ => rfl)) (ja_nil (fun _ => rfl)))) (jg_name (fun _ => rfl) 6 (fun _ => sc__law_right.nd))
  (js_cons (js_if (jb_bw (jb_w (jw_or (jb_not (jb_tru (je_dn (fun _ => D__law_are) (fun _ => hr.mono (by decide)) (fun _ => rfl) (fun _ => psD) (ja_cons (je_ix (je_v (fun _ => rfl) 4 (fun _ => pv 4)) (je_v (fun _ => rfl) 6 (fun _ => pv 6)) (fun _ _ => rfl)) (ja_cons (je_ix (je_v (fun _ => rfl) 5 (fun _ => pv 5)) (je_v (fun _ => rfl) 6 (fun _ => pv 6)) (fun _ _ => rfl)) (ja_nil (fun _ => rfl))))) (fun _ _ => rfl))) (jw_or1 (jb_ne (fun _ => hr.r) (je_v (fun _ => rfl) 2 (fun _ => pv 2)) (je_list (jt_cons (je_v (fun _ => rfl) 0 (fun _ => pv 0)) (jt_cons (je_v (fun _ => rfl) 1 (fun _ => pv 1)) (jt_nil (fun _ => rfl))))))))))
  (js_one (js_ret (je_bl (fun _ => rfl))))
  (js_nil (fun _ => rfl)))
  (js_one (js_app1 4 (fun _ => pv 4) (je_v (fun _ => rfl) 6 (fun _ => pv 6)) (je_tup (ja_cons (je_int (fun _ => rfl)) (ja_cons (je_int (fun _ => rfl)) (ja_nil (fun _ => rfl)))))))) (fun _ => passes_of rfl)))))) (fun _ => passes_of rfl))
  (js_one (js_ret (je_bl (fun _ => rfl)))))))
theorem sc_law : FnScope N_law [PySem.Str.ofString "_law_script"] (defScope s_law) := ⟨rfl, rfl, rfl, by decide +kernel, rfl, by decide +kernel, by decide +kernel⟩
theorem ok_law {f : Addr} {fd : FuncData} (F : Fun K "law" "law" s_law f fd) (T : Tx K cl mg) (D__law_two : Dn P w K mg base cl 3 "_law_two" 1 M__law_two) (D__law_right : Dn P w K mg base cl 7 "_law_right" 2 M__law_right) : FnG P w K mg base (L2.CX P w) 8 f fd [PySem.Str.ofString "_law_script"] (spM K cl 1 M_law) :=
  have nd : ∀ _ : Unit, N_law.Nodup := fun _ => sc_law.nd
  def_ok F sc_law (fun cdv A outer s H E hr =>
  (js_cons (js_asgT (je_dn (fun _ => D__law_two) (fun _ => hr.mono (by decide)) (fun _ => rfl) (fun _ => psD) (ja_cons (je_v (fun _ => rfl) 0 (fun _ => pv 0)) (ja_nil (fun _ => rfl)))) (jg_tup (n := 2) (fun _ => rfl) (jgs_cons (jg_name (fun _ => rfl) 1 (fun _ => sc_law.nd)) (jgs_cons (jg_name (fun _ => rfl) 2 (fun _ => sc_law.nd)) (jgs_nil (fun _ => rfl) (ns := []))))))
  (js_cons (js_if (jb_w (jw_or (jb_not (jb_tru (je_dn (fun _ => D__law_right) (fun _ => hr.mono (by decide)) (fun _ => rfl) (fun _ => psD) (ja_cons (je_v (fun _ => rfl) 1 (fun _ => pv 1)) (ja_cons (je_v (fun _ => rfl) 2 (fun _ => pv 2)) (ja_nil (fun _ => rfl))))) (fun _ _ => rfl))) (jw_or (jb_not (jb_tru (je_dn (fun _ => D__law_right) (fun _ => hr.mono (by decide)) (fun _ => rfl) (fun _ => psD) (ja_cons (je_v (fun _ => rfl) 2 (fun _ => pv 2)) (ja_cons (je_v (fun _ => rfl) 1 (fun _ => pv 1)) (ja_nil (fun _ => rfl))))) (fun _ _ => rfl))) (jw_or1 (jb_not (jb_tru (je_dn (fun _ => D__law_right) (fun _ => hr.mono (by decide)) (fun _ => rfl) (fun _ => psD) (ja_cons (je_v (fun _ => rfl) 1 (fun _ => pv 1)) (ja_cons (je_list (jt_nil (fun _ => rfl))) (ja_nil (fun _ => rfl))))) (fun _ _ => rfl)))))))
  (js_one (js_ret (je_bl (fun _ => rfl))))
  (js_nil (fun _ => rfl)))
  (js_one (js_ret (je_and (je_dn (fun _ => D__law_right) (fun _ => hr.mono (by decide)) (fun _ => rfl) (fun _ => psD) (ja_cons (je_v (fun _ => rfl) 1 (fun _ => pv 1)) (ja_cons (je_v (fun _ => rfl) 1 (fun _ => pv 1)) (ja_nil (fun _ => rfl))))) (je_one (je_dn (fun _ => D__law_right) (fun _ => hr.mono (by decide)) (fun _ => rfl) (fun _ => psD) (ja_cons (je_list (jt_nil (fun _ => rfl))) (ja_cons (je_v (fun _ => rfl) 2 (fun _ => pv 2)) (ja_nil (fun _ => rfl))))))))))))
end
end Nd

namespace Nd
open PySem L2

/-! ### data by their kinds -/
class DV (α : Type) where
  d : α → D
  n : Nat
  ok : ∀ a, ∃ p, (d a).toP = some p ∧ p.canLay0 = true ∧ p.depth ≤ n
  eq : ∀ a b p q, (d a).toP = some p → (d b).toP = some q → (PyData.eqv p q = true ↔ a = b)
theorem dEq_dv {α : Type} [DecidableEq α] [i : DV α] (h : i.n ≤ 64) (a b : α) : dEqB (DV.d a) (DV.d b) = some (decide (a = b)) := by
  obtain ⟨p, e1, c1, d1⟩ := i.ok a
  obtain ⟨q, e2, c2, d2⟩ := i.ok b
  have s1 : SeqAt.shaped p = true := by unfold SeqAt.shaped; rw [c1, decide_eq_true (by omega)]; rfl
  have s2 : SeqAt.shaped q = true := by unfold SeqAt.shaped; rw [c2, decide_eq_true (by omega)]; rfl
  unfold dEqB
  rw [e1, e2]
  simp only
  rw [if_pos ⟨s1, s2⟩]
  have := i.eq a b p q e1 e2
  congr 1
  by_cases h : a = b
  · rw [decide_eq_true h]; exact this.mpr h
  · rw [decide_eq_false h]
    cases q : PyData.eqv p q with
    | true => exact absurd (this.mp q) h
    | false => rfl
instance : DV Int where
  d := D.int
  n := 0
  ok a := ⟨.int a, by simp only [D.toP], by simp only [PyData.canLay0], by simp only [PyData.depth, Nat.le_refl]⟩
  eq a b p q e1 e2 := by
    simp only [D.toP, Option.some.injEq] at e1 e2
    subst e1 e2
    simp only [PyData.eqv, beq_iff_eq]
instance : DV Bool where
  d := D.bl
  n := 0
  ok a := ⟨.bool a, by simp only [D.toP], by simp only [PyData.canLay0], by simp only [PyData.depth, Nat.le_refl]⟩
  eq a b p q e1 e2 := by
    simp only [D.toP, Option.some.injEq] at e1 e2
    subst e1 e2
    simp only [PyData.eqv, beq_iff_eq]
def dOI : Option Int → D
  | none => .non
  | some i => .int i
instance : DV (Option Int) where
  d := dOI
  n := 0
  ok a := by
    cases a with
    | none => exact ⟨.none, by simp only [dOI, D.toP], by simp only [PyData.canLay0], by simp only [PyData.depth, Nat.le_refl]⟩
    | some a => exact ⟨.int a, by simp only [dOI, D.toP], by simp only [PyData.canLay0], by simp only [PyData.depth, Nat.le_refl]⟩
  eq a b p q e1 e2 := by
    cases a <;> cases b <;> simp only [dOI, D.toP, Option.some.injEq] at e1 e2 <;> subst e1 e2 <;> simp [PyData.eqv]
theorem toPs_ok {α : Type} [i : DV α] : ∀ xs : List α, ∃ ps, D.toPs (xs.map DV.d) = some ps ∧ PyData.canLayAll0 ps = true ∧ PyData.depthAll ps ≤ i.n
  | [] => ⟨[], by simp only [List.map_nil, D.toPs], by simp only [PyData.canLayAll0], by simp only [PyData.depthAll, Nat.zero_le]⟩
  | x :: xs => by
    obtain ⟨p, e1, c1, d1⟩ := i.ok x
    obtain ⟨ps, e2, c2, d2⟩ := toPs_ok xs
    refine ⟨p :: ps, ?_, ?_, ?_⟩
    · simp only [List.map_cons, D.toPs, e1, e2]
    · simp only [PyData.canLayAll0, c1, c2, Bool.and_self]
    · simp only [PyData.depthAll]; omega
theorem eqvAll_nil_cons (q : PyData) (qs : List PyData) : PyData.eqvAll [] (q :: qs) = false := by simp [PyData.eqvAll]
theorem eqvAll_cons_nil (q : PyData) (qs : List PyData) : PyData.eqvAll (q :: qs) [] = false := by simp [PyData.eqvAll]
theorem eqvAll_cc (p q : PyData) (ps qs : List PyData) : PyData.eqvAll (p :: ps) (q :: qs) = (PyData.eqv p q && PyData.eqvAll ps qs) := by simp [PyData.eqvAll]
theorem toPs_eq {α : Type} [i : DV α] : ∀ (xs ys : List α) (ps qs : List PyData), D.toPs (xs.map DV.d) = some ps → D.toPs (ys.map DV.d) = some qs → (PyData.eqvAll ps qs = true ↔ xs = ys)
  | [], [], ps, qs, e1, e2 => by
    simp only [List.map_nil, D.toPs, Option.some.injEq] at e1 e2
    subst e1 e2
    simp [PyData.eqvAll]
  | [], y :: ys, ps, qs, e1, e2 => by
    obtain ⟨p, e3, _⟩ := i.ok y
    obtain ⟨ps', e4, _⟩ := toPs_ok ys
    simp only [List.map_nil, List.map_cons, D.toPs, e3, e4, Option.some.injEq] at e1 e2
    subst e1 e2
    simp [eqvAll_nil_cons]
  | x :: xs, [], ps, qs, e1, e2 => by
    obtain ⟨p, e3, _⟩ := i.ok x
    obtain ⟨ps', e4, _⟩ := toPs_ok xs
    simp only [List.map_nil, List.map_cons, D.toPs, e3, e4, Option.some.injEq] at e1 e2
    subst e1 e2
    simp [eqvAll_cons_nil]
  | x :: xs, y :: ys, ps, qs, e1, e2 => by
    obtain ⟨p, e3, _⟩ := i.ok x
    obtain ⟨ps', e4, _⟩ := toPs_ok xs
    obtain ⟨q, e5, _⟩ := i.ok y
    obtain ⟨qs', e6, _⟩ := toPs_ok ys
    simp only [List.map_cons, D.toPs, e3, e4, e5, e6, Option.some.injEq] at e1 e2
    subst e1 e2
    rw [eqvAll_cc, Bool.and_eq_true, i.eq x y p q e3 e5, toPs_eq xs ys ps' qs' e4 e6, List.cons.injEq]
instance {α : Type} [i : DV α] : DV (List α) where
  d xs := .lst (xs.map DV.d)
  n := i.n + 1
  ok xs := by
    obtain ⟨ps, e1, c1, d1⟩ := toPs_ok xs
    refine ⟨.list ps, ?_, ?_, ?_⟩
    · simp only [D.toP, e1, Option.map_some]
    · simp only [PyData.canLay0, c1]
    · simp only [PyData.depth]; omega
  eq xs ys p q e1 e2 := by
    obtain ⟨ps, e3, _⟩ := toPs_ok xs
    obtain ⟨qs, e4, _⟩ := toPs_ok ys
    simp only [D.toP, e3, e4, Option.map_some, Option.some.injEq] at e1 e2
    subst e1 e2
    simp only [PyData.eqv]
    exact toPs_eq xs ys ps qs e3 e4
instance {α β : Type} [i : DV α] [j : DV β] : DV (α × β) where
  d x := .tup [DV.d x.1, DV.d x.2]
  n := max i.n j.n + 1
  ok x := by
    obtain ⟨p, e1, c1, d1⟩ := i.ok x.1
    obtain ⟨q, e2, c2, d2⟩ := j.ok x.2
    refine ⟨.tuple [p, q], ?_, ?_, ?_⟩
    · simp only [D.toP, D.toPs, e1, e2, Option.map_some]
    · simp only [PyData.canLay0, PyData.canLayAll0, c1, c2, Bool.and_self]
    · simp only [PyData.depth, PyData.depthAll]; omega
  eq x y p q e1 e2 := by
    obtain ⟨p1, h1, _⟩ := i.ok x.1
    obtain ⟨p2, h2, _⟩ := j.ok x.2
    obtain ⟨p3, h3, _⟩ := i.ok y.1
    obtain ⟨p4, h4, _⟩ := j.ok y.2
    simp only [D.toP, D.toPs, h1, h2, h3, h4, Option.map_some, Option.some.injEq] at e1 e2
    subst e1 e2
    simp only [PyData.eqv, eqvAll_cc, PyData.eqvAll, Bool.and_true, Bool.and_eq_true]
    rw [i.eq x.1 y.1 _ _ h1 h3, j.eq x.2 y.2 _ _ h2 h4, Prod.ext_iff]
/-- of stretches -/
abbrev dP (p : Int × Int) : D := .tup [.int p.1, .int p.2]
abbrev dS (ps : List (Int × Int)) : D := .lst (ps.map dP)
theorem dEqB_ints (a b : List Int) : dEqB (.lst (a.map D.int)) (.lst (b.map D.int)) = some (decide (a = b)) := dEq_dv (α := List Int) (by decide) a b
theorem dEqB_ints0 (a : List Int) : dEqB (.lst (a.map D.int)) (.lst []) = some (decide (a = [])) := dEq_dv (α := List Int) (by decide) a []
theorem dEqB_dS (a b : List (Int × Int)) : dEqB (dS a) (dS b) = some (decide (a = b)) := dEq_dv (α := List (Int × Int)) (by decide) a b
theorem dEqB_dS0 (a : List (Int × Int)) : dEqB (dS a) (.lst []) = some (decide (a = [])) := dEq_dv (α := List (Int × Int)) (by decide) a []
theorem dEqB_int (a b : Int) : dEqB (.int a) (.int b) = some (decide (a = b)) := dEq_dv (α := Int) (by decide) a b
theorem dEqB_bl (a b : Bool) : dEqB (.bl a) (.bl b) = some (decide (a = b)) := dEq_dv (α := Bool) (by decide) a b
theorem dEqB_oi (a b : Option Int) : dEqB (dOI a) (dOI b) = some (decide (a = b)) := dEq_dv (α := Option Int) (by decide) a b

/-! ### places -/
theorem atI_nat {α : Type} {xs : List α} {i : Nat} (h : i < xs.length) : atI xs (i : Int) = some xs[i] := by
  unfold atI ixN
  rw [if_pos (by omega), if_pos (by omega)]
  simp [h]
theorem atI_in {α : Type} {xs : List α} {i : Int} (h0 : 0 ≤ i) (h : i < xs.length) : ∃ x ∈ xs, atI xs i = some x := by
  obtain ⟨n, rfl⟩ := Int.eq_ofNat_of_zero_le h0
  have hn : n < xs.length := by omega
  exact ⟨_, List.getElem_mem hn, atI_nat hn⟩
theorem atI_mod {α : Type} {xs : List α} (h : xs ≠ []) (i : Int) : ∃ x ∈ xs, atI xs (i % (xs.length : Int)) = some x := by
  have : 0 < xs.length := List.length_pos_iff.mpr h
  exact atI_in (Int.emod_nonneg _ (by omega)) (Int.emod_lt_of_pos _ (by omega))
/-! ### lists of trees -/
theorem toDs_p (xs : List D) : T.toDs (xs.map T.p) = xs := by rw [toDs_map]; induction xs with
  | nil => rfl
  | cons x xs ih => rw [List.map_cons, List.map_cons, ih]; rfl
theorem toDs_g {α : Type} (g : α → D) (xs : List α) : T.toDs (xs.map fun x => T.p (g x)) = xs.map g := by
  rw [toDs_map, List.map_map]; rfl
theorem toDs_gi (xs : List Int) : T.toDs (xs.map fun x => T.p (D.int x)) = xs.map D.int := toDs_g D.int xs
theorem toDs_gp (ps : List (Int × Int)) : T.toDs (ps.map fun p => T.p (dP p)) = ps.map dP := toDs_g dP ps
/-! ### comprehensions, loops -/
theorem mLcL_map {α : Type} (f : α → D) (b : α → Bool) (g : α → T) {tg : D → Env → Option Env} {mt : MB} {me : ME} {e : Env} : ∀ xs : List α, (∀ x ∈ xs, ∃ e1, tg (f x) e = some e1 ∧ mt e1 = .ok (b x) ∧ (b x = true → me e1 = .ok (g x))) → mLcL tg mt me e (xs.map f) = some ((xs.filter b).map g)
  | [], _ => rfl
  | x :: xs, h => by
    obtain ⟨e1, h1, h2, h3⟩ := h x List.mem_cons_self
    have ih := mLcL_map f b g xs fun y hy => h y (List.mem_cons_of_mem _ hy)
    rw [List.map_cons]
    unfold mLcL
    rw [h1]
    simp only
    rw [h2]
    cases q : b x with
    | true =>
      simp only
      rw [h3 q, ih]
      simp [List.filter_cons, q]
    | false =>
      simp only
      rw [ih]
      simp [List.filter_cons, q]
theorem mLc_map {α : Type} (xs : List α) (f : α → D) (b : α → Bool) (g : α → T) {vs : List Nat} {mi : Env → RL} {tg : D → Env → Option Env} {mt : MB} {me : ME} {e : Env} (h1 : mi e = .ok (xs.map f)) (h2 : xs.length < sizeLine) (h3 : ∀ x ∈ xs, ∃ e1, tg (f x) (wipeE e vs) = some e1 ∧ mt e1 = .ok (b x) ∧ (b x = true → me e1 = .ok (g x))) : mLc vs mi tg mt me e = .ok (.l ((xs.filter b).map g)) := by
  unfold mLc
  rw [h1]
  simp only [List.length_map]
  rw [if_pos h2, mLcL_map f b g xs h3]
theorem mLc_all {α : Type} (xs : List α) (f : α → D) (g : α → T) {vs : List Nat} {mi : Env → RL} {tg : D → Env → Option Env} {mt : MB} {me : ME} {e : Env} (h1 : mi e = .ok (xs.map f)) (h2 : xs.length < sizeLine) (h3 : ∀ x ∈ xs, ∃ e1, tg (f x) (wipeE e vs) = some e1 ∧ mt e1 = .ok true ∧ me e1 = .ok (g x)) : mLc vs mi tg mt me e = .ok (.l (xs.map g)) := by
  have := mLc_map xs f (fun _ => true) g h1 h2 (fun x hx => by obtain ⟨e1, q1, q2, q3⟩ := h3 x hx; exact ⟨e1, q1, q2, fun _ => q3⟩)
  have q : xs.filter (fun _ => true) = xs := List.filter_eq_self.mpr fun _ _ => rfl
  rwa [q] at this
/-- a loop that goes to its end: I speaks of what was done, what is to be done -/
theorem mForL_inv {α : Type} (f : α → D) (I : List α → Env → Prop) {tg : D → Env → Option Env} {body : MS} : ∀ (xs : List α) (e : Env), I xs e → (∀ x ys e, x ∈ xs → I (x :: ys) e → ∃ e1 e2, tg (f x) e = some e1 ∧ body e1 = .nx e2 ∧ I ys e2) → ∃ e', mForL tg body (xs.map f) e = .nx e' ∧ I [] e'
  | [], e, h, _ => ⟨e, rfl, h⟩
  | x :: xs, e, h, hs => by
    obtain ⟨e1, e2, h1, h2, h3⟩ := hs x xs e List.mem_cons_self h
    obtain ⟨e', q1, q2⟩ := mForL_inv f I xs e2 h3 fun y ys e hy => hs y ys e (List.mem_cons_of_mem _ hy)
    refine ⟨e', ?_, q2⟩
    rw [List.map_cons]
    unfold mForL
    rw [h1]
    simp only
    rw [h2]
    exact q1
theorem mFor_inv {α : Type} (xs : List α) (f : α → D) (I : List α → Env → Prop) {mi : Env → RL} {tg : D → Env → Option Env} {body : MS} {e : Env} (h1 : mi e = .ok (xs.map f)) (h2 : I xs e) (h3 : ∀ x ys e, x ∈ xs → I (x :: ys) e → ∃ e1 e2, tg (f x) e = some e1 ∧ body e1 = .nx e2 ∧ I ys e2) : ∃ e', mFor mi tg body e = .nx e' ∧ I [] e' := by
  unfold mFor
  rw [h1]
  exact mForL_inv f I xs e h2 h3
theorem cMul_l {i j : Int} (h1 : -(2 ^ 64) < i) (h2 : i < 2 ^ 64) : cMul i j = true := by
  unfold cMul
  rw [decide_eq_true h1, decide_eq_true h2]; rfl
theorem cMul_r {i j : Int} (h1 : -(2 ^ 64) < j) (h2 : j < 2 ^ 64) : cMul i j = true := by
  unfold cMul
  rw [decide_eq_true h1, decide_eq_true h2, Bool.and_self, Bool.or_true]
theorem cut_to {α : Type} (xs : List α) (n : Nat) : cutL xs none (some (n : Int)) = xs.take n := by
  unfold cutL HT.sIx
  simp only [List.drop_zero, Nat.sub_zero]
  rw [if_neg (by omega)]
  simp only [Int.toNat_natCast]
  rw [← List.take_take, List.take_length]
theorem cut_to' {α : Type} (xs : List α) (i : Int) (h : 0 ≤ i) : cutL xs none (some i) = xs.take i.toNat := by
  obtain ⟨n, rfl⟩ := Int.eq_ofNat_of_zero_le h
  rw [cut_to]; rfl
/-- (place, item) -/
abbrev dE (p : Nat × Int) : D := .tup [.int (p.1 : Nat), .int p.2]
theorem enumD_ints (ns : List Int) : enumD (ns.map D.int) = ((List.range ns.length).zip ns).map dE := by
  unfold enumD
  rw [List.length_map, List.zip, List.map_zipWith, List.zipWith_map_right]
theorem mem_enum {ns : List Int} {p : Nat × Int} (h : p ∈ (List.range ns.length).zip ns) : p.1 < ns.length ∧ p.2 ∈ ns := by
  obtain ⟨a, b⟩ := p
  have := List.of_mem_zip h
  exact ⟨List.mem_range.mp this.1, this.2⟩
theorem dEqB_nn : dEqB (.lst []) (.lst []) = some true := dEqB_ints0 []
/-! ### step by step -/
theorem mDef_rt {n : Nat} {m : MS} {ds : List D} {t : T} (h : m (env0 n ds) = .rt t) : mDef n m ds = .ok t := by unfold mDef; rw [h]
theorem mDef_nx {n : Nat} {m : MS} {ds : List D} {e : Env} (h : m (env0 n ds) = .nx e) : mDef n m ds = .ok (.p .non) := by unfold mDef; rw [h]
theorem mSeq_step {m n : MS} {e e1 : Env} {r : R} (h1 : m e = .nx e1) (h2 : n e1 = r) : mSeq m n e = r := by unfold mSeq; rw [h1]; exact h2
theorem mSeq_rt {m n : MS} {e : Env} {t : T} (h1 : m e = .rt t) : mSeq m n e = .rt t := by unfold mSeq; rw [h1]
theorem mSeq_for {α : Type} (xs : List α) (f : α → D) (I : List α → Env → Prop) {mi : Env → RL} {tg : D → Env → Option Env} {body n : MS} {e : Env} {r : R} (h1 : mi e = .ok (xs.map f)) (h2 : I xs e) (h3 : ∀ x ys e, x ∈ xs → I (x :: ys) e → ∃ e1 e2, tg (f x) e = some e1 ∧ body e1 = .nx e2 ∧ I ys e2) (h4 : ∀ e', I [] e' → n e' = r) : mSeq (mFor mi tg body) n e = r := by
  obtain ⟨e', q1, q2⟩ := mFor_inv xs f I h1 h2 h3
  exact mSeq_step q1 (h4 e' q2)
theorem toDs_c {α : Type} (g : α → D) (xs : List α) : T.toDs (xs.map (T.p ∘ g)) = xs.map g := toDs_g g xs
theorem mSeq_ex {m n : MS} {e : Env} {r : R} (h : ∃ e1, m e = .nx e1 ∧ n e1 = r) : mSeq m n e = r := by
  obtain ⟨e1, h1, h2⟩ := h
  exact mSeq_step h1 h2
theorem toDs_append (a b : List T) : T.toDs (a ++ b) = T.toDs a ++ T.toDs b := by rw [toDs_map, toDs_map, toDs_map, List.map_append]
theorem ints_g {α : Type} (g : α → Int) (xs : List α) : D.ints (xs.map fun x => D.int (g x)) = some (xs.map g) := by
  rw [← D.ints_map, List.map_map]; rfl
theorem bls_map : ∀ ns : List Bool, D.bls (ns.map D.bl) = some ns
  | [] => rfl
  | n :: ns => by rw [List.map_cons, D.bls, bls_map ns]; rfl
theorem bls_g {α : Type} (g : α → Bool) (xs : List α) : D.bls (xs.map fun x => D.bl (g x)) = some (xs.map g) := by
  rw [← bls_map, List.map_map]; rfl
/-- a loop that may return: the first one at which b, if any -/
theorem mForL_find {α : Type} (f : α → D) (b : α → Bool) (g : α → T) (J : Env → Prop) {tg : D → Env → Option Env} {body : MS} : ∀ (xs : List α) (e : Env), J e → (∀ x e, x ∈ xs → J e → ∃ e1, tg (f x) e = some e1 ∧ (b x = true → body e1 = .rt (g x)) ∧ (b x = false → ∃ e2, body e1 = .nx e2 ∧ J e2)) → (∃ x, xs.find? b = some x ∧ mForL tg body (xs.map f) e = .rt (g x)) ∨ (xs.find? b = none ∧ ∃ e', mForL tg body (xs.map f) e = .nx e' ∧ J e')
  | [], e, h, _ => .inr ⟨rfl, e, rfl, h⟩
  | x :: xs, e, h, hs => by
    obtain ⟨e1, h1, h2, h3⟩ := hs x e List.mem_cons_self h
    rw [List.map_cons]
    unfold mForL
    rw [h1]
    simp only
    cases q : b x with
    | true =>
      rw [h2 q]
      exact .inl ⟨x, by rw [List.find?_cons, q], rfl⟩
    | false =>
      obtain ⟨e2, q1, q2⟩ := h3 q
      rw [q1, List.find?_cons, q]
      exact mForL_find f b g J xs e2 q2 fun y e hy => hs y e (List.mem_cons_of_mem _ hy)
theorem mFor_find {α : Type} (xs : List α) (f : α → D) (b : α → Bool) (g : α → T) (J : Env → Prop) {mi : Env → RL} {tg : D → Env → Option Env} {body n : MS} {e : Env} {r : R} (h1 : mi e = .ok (xs.map f)) (h2 : J e) (h3 : ∀ x e, x ∈ xs → J e → ∃ e1, tg (f x) e = some e1 ∧ (b x = true → body e1 = .rt (g x)) ∧ (b x = false → ∃ e2, body e1 = .nx e2 ∧ J e2)) (h4 : ∀ x, xs.find? b = some x → r = .rt (g x)) (h5 : ∀ e', xs.find? b = none → J e' → n e' = r) : mSeq (mFor mi tg body) n e = r := by
  unfold mSeq mFor
  rw [h1]
  rcases mForL_find f b g J xs e h2 h3 with ⟨x, q1, q2⟩ | ⟨q1, e', q2, q3⟩
  · simp only [q2]; exact (h4 x q1).symm
  · simp only [q2]; exact h5 e' q1 q3
theorem kit_int_int : kitB "int" "int" = some true := kitB_facts.1
theorem kit_bool_int : kitB "bool" "int" = some true := kitB_facts.2.1
theorem kit_NoneType_int : kitB "NoneType" "int" = some false := kitB_facts.2.2.1
theorem kit_str_int : kitB "str" "int" = some false := kitB_facts.2.2.2.1
theorem kit_list_int : kitB "list" "int" = some false := kitB_facts.2.2.2.2.1
theorem kit_tuple_int : kitB "tuple" "int" = some false := kitB_facts.2.2.2.2.2.1
theorem kit_dict_int : kitB "dict" "int" = some false := kitB_facts.2.2.2.2.2.2.1
theorem kit_int_bool : kitB "int" "bool" = some false := kitB_facts.2.2.2.2.2.2.2.1
theorem kit_bool_bool : kitB "bool" "bool" = some true := kitB_facts.2.2.2.2.2.2.2.2.1
theorem kit_NoneType_bool : kitB "NoneType" "bool" = some false := kitB_facts.2.2.2.2.2.2.2.2.2.1
theorem kit_str_bool : kitB "str" "bool" = some false := kitB_facts.2.2.2.2.2.2.2.2.2.2.1
theorem kit_list_bool : kitB "list" "bool" = some false := kitB_facts.2.2.2.2.2.2.2.2.2.2.2.1
theorem kit_tuple_bool : kitB "tuple" "bool" = some false := kitB_facts.2.2.2.2.2.2.2.2.2.2.2.2.1
theorem kit_dict_bool : kitB "dict" "bool" = some false := kitB_facts.2.2.2.2.2.2.2.2.2.2.2.2.2.1
theorem kit_int_list : kitB "int" "list" = some false := kitB_facts.2.2.2.2.2.2.2.2.2.2.2.2.2.2.1
theorem kit_bool_list : kitB "bool" "list" = some false := kitB_facts.2.2.2.2.2.2.2.2.2.2.2.2.2.2.2.1
theorem kit_NoneType_list : kitB "NoneType" "list" = some false := kitB_facts.2.2.2.2.2.2.2.2.2.2.2.2.2.2.2.2.1
theorem kit_str_list : kitB "str" "list" = some false := kitB_facts.2.2.2.2.2.2.2.2.2.2.2.2.2.2.2.2.2.1
theorem kit_list_list : kitB "list" "list" = some true := kitB_facts.2.2.2.2.2.2.2.2.2.2.2.2.2.2.2.2.2.2.1
theorem kit_tuple_list : kitB "tuple" "list" = some false := kitB_facts.2.2.2.2.2.2.2.2.2.2.2.2.2.2.2.2.2.2.2.1
theorem kit_dict_list : kitB "dict" "list" = some false := kitB_facts.2.2.2.2.2.2.2.2.2.2.2.2.2.2.2.2.2.2.2.2.1
theorem kit_int_tuple : kitB "int" "tuple" = some false := kitB_facts.2.2.2.2.2.2.2.2.2.2.2.2.2.2.2.2.2.2.2.2.2.1
theorem kit_bool_tuple : kitB "bool" "tuple" = some false := kitB_facts.2.2.2.2.2.2.2.2.2.2.2.2.2.2.2.2.2.2.2.2.2.2.1
theorem kit_NoneType_tuple : kitB "NoneType" "tuple" = some false := kitB_facts.2.2.2.2.2.2.2.2.2.2.2.2.2.2.2.2.2.2.2.2.2.2.2.1
theorem kit_str_tuple : kitB "str" "tuple" = some false := kitB_facts.2.2.2.2.2.2.2.2.2.2.2.2.2.2.2.2.2.2.2.2.2.2.2.2.1
theorem kit_list_tuple : kitB "list" "tuple" = some false := kitB_facts.2.2.2.2.2.2.2.2.2.2.2.2.2.2.2.2.2.2.2.2.2.2.2.2.2.1
theorem kit_tuple_tuple : kitB "tuple" "tuple" = some true := kitB_facts.2.2.2.2.2.2.2.2.2.2.2.2.2.2.2.2.2.2.2.2.2.2.2.2.2.2.1
theorem kit_dict_tuple : kitB "dict" "tuple" = some false := kitB_facts.2.2.2.2.2.2.2.2.2.2.2.2.2.2.2.2.2.2.2.2.2.2.2.2.2.2.2.1
theorem kit_int_str : kitB "int" "str" = some false := kitB_facts.2.2.2.2.2.2.2.2.2.2.2.2.2.2.2.2.2.2.2.2.2.2.2.2.2.2.2.2.1
theorem kit_bool_str : kitB "bool" "str" = some false := kitB_facts.2.2.2.2.2.2.2.2.2.2.2.2.2.2.2.2.2.2.2.2.2.2.2.2.2.2.2.2.2.1
theorem kit_NoneType_str : kitB "NoneType" "str" = some false := kitB_facts.2.2.2.2.2.2.2.2.2.2.2.2.2.2.2.2.2.2.2.2.2.2.2.2.2.2.2.2.2.2.1
theorem kit_str_str : kitB "str" "str" = some true := kitB_facts.2.2.2.2.2.2.2.2.2.2.2.2.2.2.2.2.2.2.2.2.2.2.2.2.2.2.2.2.2.2.2.1
theorem kit_list_str : kitB "list" "str" = some false := kitB_facts.2.2.2.2.2.2.2.2.2.2.2.2.2.2.2.2.2.2.2.2.2.2.2.2.2.2.2.2.2.2.2.2.1
theorem kit_tuple_str : kitB "tuple" "str" = some false := kitB_facts.2.2.2.2.2.2.2.2.2.2.2.2.2.2.2.2.2.2.2.2.2.2.2.2.2.2.2.2.2.2.2.2.2.1
theorem kit_dict_str : kitB "dict" "str" = some false := kitB_facts.2.2.2.2.2.2.2.2.2.2.2.2.2.2.2.2.2.2.2.2.2.2.2.2.2.2.2.2.2.2.2.2.2.2
theorem nc0 : ((0 : Nat) : Int) = 0 := rfl
theorem nc1 : ((1 : Nat) : Int) = 1 := rfl
theorem nc2 : ((2 : Nat) : Int) = 2 := rfl
theorem nc3 : ((3 : Nat) : Int) = 3 := rfl
theorem nc4 : ((4 : Nat) : Int) = 4 := rfl
theorem nc5 : ((5 : Nat) : Int) = 5 := rfl
theorem nc6 : ((6 : Nat) : Int) = 6 := rfl
theorem nc7 : ((7 : Nat) : Int) = 7 := rfl
theorem nc8 : ((8 : Nat) : Int) = 8 := rfl
def OkR (Q : T → Prop) (r : R) : Prop := ∃ t, Q t ∧ r = .rt t
theorem okR_def {Q : T → Prop} {n : Nat} {m : MS} {ds : List D} (h : OkR Q (m (env0 n ds))) : ∃ t, Q t ∧ mDef n m ds = .ok t := by
  obtain ⟨t, q, h⟩ := h
  exact ⟨t, q, mDef_rt h⟩
theorem okR_step {Q : T → Prop} {m n : MS} {e e1 : Env} (h1 : m e = .nx e1) (h2 : OkR Q (n e1)) : OkR Q (mSeq m n e) := by
  obtain ⟨t, q, h⟩ := h2
  exact ⟨t, q, mSeq_step h1 h⟩
theorem okR_rt {Q : T → Prop} {m : MS} {e : Env} {t : T} (q : Q t) (h : m e = .rt t) : OkR Q (m e) := ⟨t, q, h⟩
theorem okR_for {Q : T → Prop} {α : Type} (xs : List α) (f : α → D) (I : List α → Env → Prop) {mi : Env → RL} {tg : D → Env → Option Env} {body n : MS} {e : Env} (h1 : mi e = .ok (xs.map f)) (h2 : I xs e) (h3 : ∀ x ys e, x ∈ xs → I (x :: ys) e → ∃ e1 e2, tg (f x) e = some e1 ∧ body e1 = .nx e2 ∧ I ys e2) (h4 : ∀ e', I [] e' → OkR Q (n e')) : OkR Q (mSeq (mFor mi tg body) n e) := by
  obtain ⟨e', q1, q2⟩ := mFor_inv xs f I h1 h2 h3
  exact okR_step q1 (h4 e' q2)
theorem atI2_0 {α : Type} (a b : α) : atI [a, b] 0 = some a := rfl
theorem atI2_1 {α : Type} (a b : α) : atI [a, b] 1 = some b := rfl
theorem szl : sizeLine = 16777216 := rfl
end Nd

namespace Nd
open PySem L2
/-! ### loops by what comes out -/
theorem mWhile_out {mc : MB} {body : MS} (Out : R → Prop) (I : Nat → Env → Prop) (step : ∀ n e, I n e → (mc e = .ok false ∧ Out (.nx e)) ∨ (mc e = .ok true ∧ ((∃ e2 m, body e = .nx e2 ∧ m < n ∧ I m e2) ∨ ∃ t, body e = .rt t ∧ Out (.rt t)))) : ∀ (fuel n : Nat) (e : Env), I n e → n < fuel → Out (mWhile mc body fuel e)
  | 0, n, e, h, k => absurd k (Nat.not_lt_zero n)
  | fuel + 1, n, e, h, k => by
    unfold mWhile
    rcases step n e h with ⟨h1, h2⟩ | ⟨h1, ⟨e2, m, h2, h3, h4⟩ | ⟨t, h2, h3⟩⟩
    · rw [h1]; exact h2
    · rw [h1]
      simp only
      rw [h2]
      exact mWhile_out Out I step fuel m e2 h4 (by omega)
    · rw [h1]
      simp only
      rw [h2]
      exact h3
theorem mForL_out {α : Type} (f : α → D) (Out : R → Prop) (I : List α → Env → Prop) {tg : D → Env → Option Env} {body : MS} : ∀ (xs : List α) (e : Env), I xs e → (∀ x ys e, x ∈ xs → I (x :: ys) e → ∃ e1, tg (f x) e = some e1 ∧ ((∃ e2, body e1 = .nx e2 ∧ I ys e2) ∨ ∃ t, body e1 = .rt t ∧ Out (.rt t))) → (∀ e, I [] e → Out (.nx e)) → Out (mForL tg body (xs.map f) e)
  | [], e, h, _, k => k e h
  | x :: xs, e, h, hs, k => by
    rw [List.map_cons]
    unfold mForL
    obtain ⟨e1, h1, ⟨e2, h2, h3⟩ | ⟨t, h2, h3⟩⟩ := hs x xs e List.mem_cons_self h
    · rw [h1]
      simp only
      rw [h2]
      exact mForL_out f Out I xs e2 h3 (fun y ys e hy => hs y ys e (List.mem_cons_of_mem _ hy)) k
    · rw [h1]
      simp only
      rw [h2]
      exact h3
theorem mFor_out {α : Type} (xs : List α) (f : α → D) (Out : R → Prop) (I : List α → Env → Prop) {mi : Env → RL} {tg : D → Env → Option Env} {body : MS} {e : Env} (h1 : mi e = .ok (xs.map f)) (h2 : I xs e) (h3 : ∀ x ys e, x ∈ xs → I (x :: ys) e → ∃ e1, tg (f x) e = some e1 ∧ ((∃ e2, body e1 = .nx e2 ∧ I ys e2) ∨ ∃ t, body e1 = .rt t ∧ Out (.rt t))) (h4 : ∀ e, I [] e → Out (.nx e)) : Out (mFor mi tg body e) := by
  unfold mFor
  rw [h1]
  exact mForL_out f Out I xs e h2 h3 h4
/-- behind a loop that may return: the rest -/
theorem mSeq_out {m n : MS} {e : Env} {r : R} (h : (fun q => (∃ e', q = .nx e' ∧ n e' = r) ∨ (∃ t, q = .rt t ∧ r = .rt t)) (m e)) : mSeq m n e = r := by
  unfold mSeq
  rcases h with ⟨e', h1, h2⟩ | ⟨t, h1, h2⟩
  · rw [h1]; exact h2
  · rw [h1]; exact h2.symm
/-! ### ranges -/
def upto (b : Int) (n : Nat) : List Int := (List.range n).map fun (i : Nat) => b + (i : Int)
theorem rngD_upto (b : Int) (n : Nat) : rngD b n = (upto b n).map D.int := by
  unfold rngD upto
  rw [List.map_map]; rfl
theorem mem_upto {b : Int} {n : Nat} {x : Int} : x ∈ upto b n ↔ b ≤ x ∧ x < b + n := by
  unfold upto
  rw [List.mem_map]
  constructor
  · rintro ⟨i, hi, rfl⟩
    have := List.mem_range.mp hi
    omega
  · rintro ⟨h1, h2⟩
    exact ⟨(x - b).toNat, List.mem_range.mpr (by omega), by omega⟩
theorem upto_len (b : Int) (n : Nat) : (upto b n).length = n := by unfold upto; simp
theorem upto_add (b : Int) (m n : Nat) : upto b (m + n) = upto b m ++ upto (b + m) n := by
  unfold upto
  rw [List.range_add, List.map_append, List.map_map]
  congr 1
  apply List.map_congr_left
  intro i _
  simp only [Function.comp_apply, Int.natCast_add]
  omega
theorem upto_succ (b : Int) (n : Nat) : upto b (n + 1) = b :: upto (b + 1) n := by
  have := upto_add b 1 n
  rw [Nat.add_comm] at this
  rw [this]
  unfold upto
  simp
theorem upto_zero (b : Int) : upto b 0 = [] := rfl

theorem mod4 (n : Int) : n % 4 = 0 ∨ n % 4 = 1 ∨ n % 4 = 2 ∨ n % 4 = 3 := by omega
theorem mod3 (n : Int) : n % 3 = 0 ∨ n % 3 = 1 ∨ n % 3 = 2 := by omega
theorem at0 {α : Type} (a : α) (l : List α) : atI (a :: l) 0 = some a := by
  unfold atI ixN
  simp
theorem at1 {α : Type} (a b : α) (l : List α) : atI (a :: b :: l) 1 = some b := by
  unfold atI ixN
  rw [if_pos (by decide), if_pos (by simp only [List.length_cons]; omega)]
  rfl
theorem at2 {α : Type} (a b c : α) (l : List α) : atI (a :: b :: c :: l) 2 = some c := by
  unfold atI ixN
  rw [if_pos (by decide), if_pos (by simp only [List.length_cons]; omega)]
  rfl
theorem at3 {α : Type} (a b c d : α) (l : List α) : atI (a :: b :: c :: d :: l) 3 = some d := by
  unfold atI ixN
  rw [if_pos (by decide), if_pos (by simp only [List.length_cons]; omega)]
  rfl
/-- things that are no whole numbers -/
def D.odd : D → Bool
  | .non | .bl _ | .str _ | .lst _ | .tup _ | .dk _ _ => true
  | _ => false
/-! ### texts of stretches -/
def pP (p : Int × Int) : PyData := .tuple [.int p.1, .int p.2]
theorem toPs_dS : ∀ ps : List (Int × Int), D.toPs (ps.map dP) = some (ps.map pP)
  | [] => by simp only [List.map_nil, D.toPs]
  | p :: ps => by simp only [List.map_cons, D.toPs, D.toP, Option.map_some, toPs_dS ps, pP]
def Sm (i : Int) : Prop := i.natAbs < 10 ^ 7
theorem showable_ps : ∀ ps : List (Int × Int), (∀ p ∈ ps, Sm p.1 ∧ Sm p.2) → PyData.showableAll (ps.map pP) = true ∧ PyData.canLayAll0 (ps.map pP) = true ∧ PyData.leavesShortAll 8 (ps.map pP) = true ∧ PyData.bulkAll (ps.map pP) ≤ 100 * ps.length ∧ PyData.depthAll (ps.map pP) ≤ 2
  | [], _ => by simp [PyData.showableAll, PyData.canLayAll0, PyData.leavesShortAll, PyData.bulkAll, PyData.depthAll]
  | p :: ps, h => by
    obtain ⟨h1, h2, h3, h4, h5⟩ := showable_ps ps fun q hq => h q (List.mem_cons_of_mem _ hq)
    obtain ⟨a, b⟩ := h p List.mem_cons_self
    have lg : ∀ i : Int, Sm i → i.natAbs.log2 < 1920 := fun i hi => by
      by_cases h0 : i.natAbs = 0
      · rw [h0]; decide
      · exact (Nat.log2_lt h0).mpr (Nat.lt_of_lt_of_le hi (by decide))
    have ln : ∀ i : Int, Sm i → (PyData.shown (.int i)).length ≤ 8 := fun i hi => by
      have := int_text_length_le10 (a := i) (k := 7) (by decide) hi
      simp only [PyData.shown]
      rw [ofString_length]
      exact this
    refine ⟨?_, ?_, ?_, ?_, ?_⟩
    · simp only [List.map_cons, pP, PyData.showableAll, PyData.showable, decide_eq_true (lg _ a), decide_eq_true (lg _ b), Bool.and_self, Bool.true_and, Bool.and_true]; exact h1
    · simp only [List.map_cons, pP, PyData.canLayAll0, PyData.canLay0, Bool.and_self, Bool.true_and, Bool.and_true]; exact h2
    · simp only [List.map_cons, pP, PyData.leavesShortAll, PyData.leavesShort, decide_eq_true (ln _ a), decide_eq_true (ln _ b), Bool.and_self, Bool.true_and, Bool.and_true]; exact h3
    · simp only [List.map_cons, pP, PyData.bulkAll, PyData.bulk, List.length_cons] at h4 ⊢
      omega
    · simp only [List.map_cons, pP, PyData.depthAll, PyData.depth, List.length_cons] at h5 ⊢
      omega
theorem strOk_ofString (x : String) : PyData.strOk (Str.ofString x) = true := by
  rw [Str.ofString_eq_byList]
  unfold Str.ofStringByList PyData.strOk
  rw [List.all_toArray, List.all_eq_true]
  intro c hc
  obtain ⟨d, _, rfl⟩ := List.mem_map.mp hc
  have := d.valid
  simp only [decide_eq_true_eq]
  unfold Char.toNat
  rcases this with h | h
  · have : d.val.toNat < 0xd800 := h
    omega
  · exact h.2
theorem strOk_append {a b : Str} (h : PyData.strOk a = true) (k : PyData.strOk b = true) : PyData.strOk (a ++ b) = true := by
  unfold PyData.strOk at *
  rw [show (a ++ b).cps = a.cps ++ b.cps from rfl, Array.all_append, h, k]; rfl
theorem strOk_from : ∀ (ts : List Str) (k : Nat) (acc : Str), PyData.strOk acc = true → (∀ t ∈ ts, PyData.strOk t = true) → PyData.strOk (textFrom k acc ts) = true
  | [], _, acc, h, _ => h
  | t :: ts, k, acc, h, hs => by
    unfold textFrom
    refine strOk_from ts (k + 1) _ (strOk_append (strOk_append h ?_) (hs t List.mem_cons_self)) fun u hu => hs u (List.mem_cons_of_mem _ hu)
    exact strOk_ofString _
theorem strOk_list {ts : List Str} (h : ∀ t ∈ ts, PyData.strOk t = true) : PyData.strOk (listText ts) = true :=
  strOk_append (strOk_from ts 0 _ (strOk_ofString _) h) (strOk_ofString _)
theorem strOk_join {sep : Str} (hs : PyData.strOk sep = true) : ∀ {ts : List Str}, (∀ t ∈ ts, PyData.strOk t = true) → PyData.strOk (Str.join sep ts) = true
  | [], _ => by unfold Str.join PyData.strOk Str.empty; simp
  | [x], h => h x List.mem_cons_self
  | x :: y :: r, h => by
    show PyData.strOk (x ++ sep ++ Str.join sep (y :: r)) = true
    exact strOk_append (strOk_append (h x List.mem_cons_self) hs) (strOk_join hs fun t ht => h t (List.mem_cons_of_mem _ ht))
theorem strOk_tup {ts : List Str} (h : ∀ t ∈ ts, PyData.strOk t = true) : PyData.strOk (tupleText ts) = true := by
  unfold tupleText
  exact strOk_append (strOk_append (strOk_ofString _) (strOk_join (strOk_ofString _) h)) (strOk_ofString _)
theorem shown_ps : ∀ (ps : List (Int × Int)), ∀ t ∈ PyData.shownAll (ps.map pP), PyData.strOk t = true
  | [], t, h => by simp [PyData.shownAll] at h
  | p :: ps, t, h => by
    simp only [List.map_cons, PyData.shownAll] at h
    rcases List.mem_cons.mp h with rfl | h
    · unfold pP
      simp only [PyData.shown, PyData.shownAll]
      refine strOk_tup fun t ht => ?_
      simp only [List.mem_cons, List.not_mem_nil, or_false] at ht
      rcases ht with rfl | rfl
      · exact strOk_ofString _
      · exact strOk_ofString _
    · exact shown_ps ps t h
theorem fRepr_dS {ps : List (Int × Int)} (h : ∀ p ∈ ps, Sm p.1 ∧ Sm p.2) (hl : ps.length ≤ 10000) : ∃ s, PyData.strOk s = true ∧ fRepr [dS ps] = some (.p (.str s)) := by
  obtain ⟨h1, h2, h3, h4, h5⟩ := showable_ps ps h
  have h6 : (listText (PyData.shownAll (ps.map pP))).length ≤ sizeLine := by
    have := PyData.shown_fits_bulk (B := 8) (by decide) (by decide) (d := .list (ps.map pP)) (by simp only [PyData.leavesShort]; exact h3) (by simp only [PyData.bulk, List.length_map]; omega)
    simpa only [PyData.shown] using this
  refine ⟨listText (PyData.shownAll (ps.map pP)), strOk_list (shown_ps ps), ?_⟩
  unfold fRepr
  simp only [toPs_dS]
  rw [if_pos ⟨h1, h2, h6, by omega⟩]
theorem dEqB_str {a b : Str} (ha : PyData.strOk a = true) (hb : PyData.strOk b = true) : dEqB (.str a) (.str b) = some (a == b) := by
  unfold dEqB
  simp only [D.toP]
  have h : ∀ x, PyData.strOk x = true → SeqAt.shaped (PyData.str x) = true := fun x hx => by
    unfold SeqAt.shaped
    simp only [PyData.canLay0, PyData.depth, hx]
    rfl
  rw [if_pos ⟨h a ha, h b hb⟩]
  simp only [PyData.eqv]
theorem atI_last {α : Type} (xs : List α) (x : α) : atI (xs ++ [x]) (-1) = some x := by
  unfold atI ixN
  rw [if_neg (by decide), if_pos (by rw [List.length_append]; simp only [List.length_cons, List.length_nil]; omega)]
  simp only [Option.bind_some]
  rw [show (-1 + (((xs ++ [x]).length : Nat) : Int)).toNat = xs.length by rw [List.length_append]; simp only [List.length_cons, List.length_nil]; omega]
  simp
theorem ixN_last {n : Nat} (h : 0 < n) : ixN n (-1) = some (n - 1) := by
  unfold ixN
  rw [if_neg (by decide), if_pos (by omega)]
  congr 1
  omega
theorem lookD_hit {f k : Str} {ks : List Str} {d : D} {ds : List D} (h : (f == k) = true) : lookD f (k :: ks) (d :: ds) = some d := by
  unfold lookD
  rw [if_pos h]
theorem lookD_miss {f k : Str} {ks : List Str} {d : D} {ds : List D} (h : (f == k) = false) : lookD f (k :: ks) (d :: ds) = lookD f ks ds := by
  rw [lookD]
  rw [if_neg (by rw [h]; decide)]
theorem dFld_ins {C : String} {f : Str} {ks : List Str} {ds : List D} : dFld C f (.ins C ks ds) = (lookD f ks ds).map T.p := if_pos rfl
abbrev tS (ps : List (Int × Int)) : T := .l (ps.map fun p => T.p (dP p))
def amg (d : D) (l m : Int) : Bool := match d with
  | .int i => decide (l ≤ i) && decide (i ≤ m)
  | _ => false
def D.oi : D → Bool
  | .int _ => true
  | d => d.odd
theorem mMake_ok {n : Nat} {I : Addr → List D → RE} {ms : Env → RL} {e : Env} {ds : List D} {C : String} {ks : List Str} {ts : List T} (h : ms e = .ok ds) (hl : ds.length = n) (hI : ∀ x, I x ds = .ok (.i C ks ts (some x))) : mMake n I ms e = .ok (.i C ks ts none) := by
  unfold mMake
  rw [h]
  simp only
  rw [if_pos hl, hI 0]
  simp only
  rw [if_pos hI]
theorem mMake_exc {n : Nat} {I : Addr → List D → RE} {ms : Env → RL} {e : Env} {ds : List D} {y : Xn} (h : ms e = .ok ds) (hl : ds.length = n) (hI : ∀ x, I x ds = .exc y) : mMake n I ms e = .exc y := by
  unfold mMake
  rw [h]
  simp only
  rw [if_pos hl, hI 0]
  simp only
  rw [if_pos hI]
theorem mMeth_ok {C0 : String} {m : Str} {n : Nat} {M : List D → RE} {mo : ME} {ms : Env → RL} {e : Env} {t : T} {ks : List Str} {ds as : List D} (h1 : mo e = .ok t) (h2 : t.toD = .ins C0 ks ds) (h3 : noKey m ks = true) (h4 : ms e = .ok as) (h5 : as.length + 1 = n) : mMeth C0 m n M mo ms e = M (.ins C0 ks ds :: as) := by
  unfold mMeth
  rw [h1]
  simp only
  rw [h2]
  simp only
  rw [if_pos ⟨trivial, h3⟩, h4]
  simp only
  rw [if_pos h5]
theorem pickL_ints (ns : List Int) (lo hi st : Option Int) : pickL (ns.map D.int) lo hi st = (pickL ns lo hi st).map D.int := by
  unfold pickL
  rw [List.length_map]
  induction pickIx ns.length lo hi st with
  | nil => rfl
  | cons i l ih =>
    rw [List.filterMap_cons, List.filterMap_cons, List.getElem?_map]
    cases ns[i]? with
    | none => simp only [Option.map_none]; exact ih
    | some x => simp only [Option.map_some, List.map_cons]; rw [ih]
theorem fIsa_of {isa : String → String → Option Bool} {xc : List String} {d c : D} {a n : String} {b : Bool} (h1 : D.tyE d = some a) (h2 : D.clE c = some n) (h3 : ∀ C, isEx d = some C → C ∈ xc) (h4 : isa a n = some b) (hc : ∀ cs, c ≠ .tup cs) : fIsa isa xc [d, c] = some (.p (.bl b)) := by
  unfold fIsa
  split
  · rename_i e; cases e; exact absurd rfl (hc _)
  · rename_i e
    cases e
    rw [h1, h2]
    simp only
    rw [if_pos h3, h4]; rfl
  · rename_i e1 e2; exact absurd rfl (e2 _ _)
theorem fIsa_ofs {isa : String → String → Option Bool} {xc : List String} {d : D} {cs : List D} {a : String} {ns : List String} {b : Bool} (h1 : D.tyE d = some a) (h2 : D.clEs cs = some ns) (h3 : ∀ C, isEx d = some C → C ∈ xc) (h4 : isaAny isa a ns = some b) : fIsa isa xc [d, .tup cs] = some (.p (.bl b)) := by
  unfold fIsa
  simp only [h1, h2]
  rw [if_pos h3, h4]; rfl
/-- an exception without fields -/
abbrev xE (C : String) : D := .ex C [] []
theorem xE_in {C : String} {xc : List String} (h : C ∈ xc) : ∀ c, isEx (xE C) = some c → c ∈ xc := by
  intro c e
  cases e
  exact h
theorem non_in {xc : List String} : ∀ c, isEx D.non = some c → c ∈ xc := by
  intro c e
  cases e
theorem mM1_ok {f : Str → D → Option T} {mo ma : ME} {e : Env} {s : Str} {tb t : T} (h1 : mo e = .ok (.p (.str s))) (h2 : ma e = .ok tb) (h3 : f s tb.toD = some t) : mM1 f mo ma e = .ok t := by
  unfold mM1
  rw [h1]
  simp only [T.toD]
  rw [h2]
  simp only
  rw [h3]
theorem mRet_ok {m : ME} {e : Env} {t : T} (h : m e = .ok t) : mRet m e = .rt t := by
  unfold mRet
  rw [h]
theorem mRet_exc {m : ME} {e : Env} {x : Xn} (h : m e = .exc x) : mRet m e = .exc x e := by
  unfold mRet
  rw [h]
theorem mDef_exc {n : Nat} {m : MS} {ds : List D} {x : Xn} {e : Env} (h : m (env0 n ds) = .exc x e) : mDef n m ds = .exc x := by
  unfold mDef
  rw [h]
theorem mCall_ok {n : Nat} {M : List D → RE} {ms : Env → RL} {e : Env} {ds : List D} {r : RE} (h : ms e = .ok ds) (hl : ds.length = n) (hr : M ds = r) : mCall n M ms e = r := by
  unfold mCall
  rw [h]
  simp only
  rw [if_pos hl, hr]
theorem mProp_ok {C : String} {M : List D → RE} {mo : ME} {e : Env} {ks : List Str} {ds : List D} {t u : T} (h1 : mo e = .ok t) (h2 : t.toD = .ins C ks ds) (h3 : M [.ins C ks ds] = .ok u) : mProp C M mo e = .ok u := by
  unfold mProp
  rw [h1]
  simp only
  rw [h2]
  simp only
  rw [if_pos trivial, h3]
/-- alike data is equal -/
theorem dEqB_refl {d : D} {p : PyData} (h : d.toP = some p) (hc : p.canLay0 = true) (hd : p.depth ≤ 64) : dEqB d d = some true := by
  unfold dEqB
  simp only [h]
  have : SeqAt.shaped p = true := by unfold SeqAt.shaped; rw [hc, decide_eq_true hd]; rfl
  rw [if_pos ⟨this, this⟩]
  congr 1
  exact SeqAt.eqv_refl p hc
end Nd

namespace Nd
open PySem L2
/-! ### stretches: which minutes they have -/
def has (ps : List (Int × Int)) (m : Int) : Prop := ∃ p ∈ ps, p.1 ≤ m ∧ m < p.2
theorem has_nil (m : Int) : ¬ has [] m := fun ⟨p, hp, _⟩ => by simp at hp
theorem has_cons {p : Int × Int} {ps : List (Int × Int)} {m : Int} : has (p :: ps) m ↔ (p.1 ≤ m ∧ m < p.2) ∨ has ps m := by
  unfold has
  simp only [List.mem_cons, exists_eq_or_imp]
theorem has_append {ps qs : List (Int × Int)} {m : Int} : has (ps ++ qs) m ↔ has ps m ∨ has qs m := by
  induction ps with
  | nil => simp only [List.nil_append]; exact ⟨.inr, fun h => h.elim (fun h => absurd h (has_nil m)) id⟩
  | cons p ps ih => rw [List.cons_append, has_cons, has_cons, ih, or_assoc]
structure Can (ps : List (Int × Int)) : Prop where
  bd : ∀ p ∈ ps, p.1 < p.2
  ord : ps.Pairwise fun p q => p.2 < q.1
theorem Can.nil : Can [] := ⟨fun p hp => by simp at hp, .nil⟩
theorem Can.tail {p : Int × Int} {ps : List (Int × Int)} (h : Can (p :: ps)) : Can ps := ⟨fun q hq => h.bd q (List.mem_cons_of_mem _ hq), (List.pairwise_cons.mp h.ord).2⟩
theorem Can.cons {p : Int × Int} {ps : List (Int × Int)} (h1 : p.1 < p.2) (h2 : ∀ q ∈ ps, p.2 < q.1) (h : Can ps) : Can (p :: ps) :=
  ⟨fun q hq => (List.mem_cons.mp hq).elim (fun e => e ▸ h1) (h.bd q), List.pairwise_cons.mpr ⟨h2, h.ord⟩⟩
theorem has_ge {p : Int × Int} {ps : List (Int × Int)} (hp : p.1 < p.2) (h : ∀ q ∈ ps, p.2 < q.1) {m : Int} (hm : has ps m) : p.2 < m := by
  obtain ⟨q, hq, h1, h2⟩ := hm
  have := h q hq
  omega
/-- stretches in their order are told by their minutes -/
theorem can_uniq : ∀ {ps qs : List (Int × Int)}, Can ps → Can qs → (∀ m, has ps m ↔ has qs m) → ps = qs
  | [], [], _, _, _ => rfl
  | [], q :: qs, _, hq, h => absurd ((h q.1).mpr (has_cons.mpr (.inl ⟨Int.le_refl _, hq.bd q List.mem_cons_self⟩))) (has_nil _)
  | p :: ps, [], hp, _, h => absurd ((h p.1).mp (has_cons.mpr (.inl ⟨Int.le_refl _, hp.bd p List.mem_cons_self⟩))) (has_nil _)
  | p :: ps, q :: qs, hp, hq, h => by
    have p0 := hp.bd p List.mem_cons_self
    have q0 := hq.bd q List.mem_cons_self
    have po := (List.pairwise_cons.mp hp.ord).1
    have qo := (List.pairwise_cons.mp hq.ord).1
    have pl : ∀ m, has (p :: ps) m → p.1 ≤ m := fun m hm => by
      rcases has_cons.mp hm with h | h
      · exact h.1
      · have := has_ge p0 po h; omega
    have ql : ∀ m, has (q :: qs) m → q.1 ≤ m := fun m hm => by
      rcases has_cons.mp hm with h | h
      · exact h.1
      · have := has_ge q0 qo h; omega
    have e1 : p.1 = q.1 := by
      have a := ql p.1 ((h p.1).mp (has_cons.mpr (.inl ⟨Int.le_refl _, p0⟩)))
      have b := pl q.1 ((h q.1).mpr (has_cons.mpr (.inl ⟨Int.le_refl _, q0⟩)))
      omega
    have np : ¬ has (p :: ps) p.2 := fun hm => by
      rcases has_cons.mp hm with h | h
      · omega
      · have := has_ge p0 po h; omega
    have nq : ¬ has (q :: qs) q.2 := fun hm => by
      rcases has_cons.mp hm with h | h
      · omega
      · have := has_ge q0 qo h; omega
    have e2 : p.2 = q.2 := by
      rcases Int.lt_trichotomy p.2 q.2 with c | c | c
      · exact absurd ((h p.2).mpr (has_cons.mpr (.inl ⟨by omega, c⟩))) np
      · exact c
      · exact absurd ((h q.2).mp (has_cons.mpr (.inl ⟨by omega, c⟩))) nq
    have e : p = q := Prod.ext e1 e2
    subst e
    rw [can_uniq hp.tail hq.tail fun m => ?_]
    constructor
    · intro hm
      have := has_ge p0 po hm
      rcases has_cons.mp ((h m).mp (has_cons.mpr (.inr hm))) with c | c
      · omega
      · exact c
    · intro hm
      have := has_ge q0 qo hm
      rcases has_cons.mp ((h m).mpr (has_cons.mpr (.inr hm))) with c | c
      · omega
      · exact c
/-! ### both -/
/-- in their order, perhaps empty -/
structure Row (ps : List (Int × Int)) : Prop where
  bd : ∀ p ∈ ps, p.1 ≤ p.2
  ord : ps.Pairwise fun p q => p.2 < q.1
theorem Can.row {ps : List (Int × Int)} (h : Can ps) : Row ps := ⟨fun p hp => Int.le_of_lt (h.bd p hp), h.ord⟩
theorem Row.tail {p : Int × Int} {ps : List (Int × Int)} (h : Row (p :: ps)) : Row ps := ⟨fun q hq => h.bd q (List.mem_cons_of_mem _ hq), (List.pairwise_cons.mp h.ord).2⟩
def cutQ (b e : Int) : List (Int × Int) := if b < e then [(b, e)] else []
def cutP (p q : Int × Int) : List (Int × Int) := cutQ (if q.1 > p.1 then q.1 else p.1) (if q.2 < p.2 then q.2 else p.2)
theorem has_cutQ {b e m : Int} : has (cutQ b e) m ↔ b ≤ m ∧ m < e := by
  unfold cutQ
  by_cases c : b < e
  · rw [if_pos c, has_cons]
    exact ⟨fun h => h.elim id fun h => absurd h (has_nil _), .inl⟩
  · rw [if_neg c]
    exact ⟨fun h => absurd h (has_nil _), fun h => by omega⟩
theorem cutQ_mem {b e : Int} {r : Int × Int} (h : r ∈ cutQ b e) : b < e ∧ r.1 = b ∧ r.2 = e := by
  unfold cutQ at h
  by_cases c : b < e
  · rw [if_pos c] at h
    rw [List.mem_singleton.mp h]
    exact ⟨c, rfl, rfl⟩
  · rw [if_neg c] at h
    simp at h
def ov : List (Int × Int) → List (Int × Int) → List (Int × Int)
  | p :: ps, q :: qs => if p.2 ≤ q.2 then cutP p q ++ ov ps (q :: qs) else cutP p q ++ ov (p :: ps) qs
  | _, _ => []
termination_by ps qs => ps.length + qs.length
theorem ov_nil_left (qs : List (Int × Int)) : ov [] qs = [] := by unfold ov; rfl
theorem ov_nil_right : ∀ ps : List (Int × Int), ov ps [] = []
  | [] => by unfold ov; rfl
  | p :: ps => by unfold ov; rfl
theorem ov_cons (p q : Int × Int) (ps qs : List (Int × Int)) : ov (p :: ps) (q :: qs) = if p.2 ≤ q.2 then cutP p q ++ ov ps (q :: qs) else cutP p q ++ ov (p :: ps) qs := by rw [ov]
theorem has_cutP {p q : Int × Int} {m : Int} : has (cutP p q) m ↔ (p.1 ≤ m ∧ m < p.2) ∧ (q.1 ≤ m ∧ m < q.2) := by
  unfold cutP
  rw [has_cutQ]
  split <;> split <;> omega
theorem cutP_mem {p q r : Int × Int} (h : r ∈ cutP p q) : r.1 < r.2 ∧ p.1 ≤ r.1 ∧ q.1 ≤ r.1 ∧ r.2 ≤ p.2 ∧ r.2 ≤ q.2 := by
  unfold cutP at h
  obtain ⟨h1, h2, h3⟩ := cutQ_mem h
  rw [h2, h3]
  refine ⟨h1, ?_, ?_, ?_, ?_⟩ <;> split <;> omega
theorem cutP_len (p q : Int × Int) : (cutP p q).length ≤ 1 := by
  unfold cutP cutQ
  generalize (if q.1 > p.1 then q.1 else p.1) = b
  generalize (if q.2 < p.2 then q.2 else p.2) = e
  split <;> simp
theorem ov_has : ∀ {ps qs : List (Int × Int)}, Row ps → Row qs → ∀ m, has (ov ps qs) m ↔ has ps m ∧ has qs m
  | [], qs, _, _, m => by rw [ov_nil_left]; exact ⟨fun h => absurd h (has_nil _), fun h => absurd h.1 (has_nil _)⟩
  | p :: ps, [], _, _, m => by rw [ov_nil_right]; exact ⟨fun h => absurd h (has_nil _), fun h => absurd h.2 (has_nil _)⟩
  | p :: ps, q :: qs, hp, hq, m => by
    have p0 := hp.bd p List.mem_cons_self
    have q0 := hq.bd q List.mem_cons_self
    have po := (List.pairwise_cons.mp hp.ord).1
    have qo := (List.pairwise_cons.mp hq.ord).1
    have gp : has ps m → p.2 < m := fun ⟨r, hr, h1, _⟩ => by have := po r hr; omega
    have gq : has qs m → q.2 < m := fun ⟨r, hr, h1, _⟩ => by have := qo r hr; omega
    rw [ov_cons]
    by_cases c : p.2 ≤ q.2
    · rw [if_pos c, has_append, has_cutP, ov_has hp.tail hq m, has_cons (ps := ps), has_cons (ps := qs)]
      constructor
      · rintro (⟨h1, h2⟩ | ⟨h1, h2⟩)
        · exact ⟨.inl h1, .inl h2⟩
        · exact ⟨.inr h1, h2⟩
      · rintro ⟨h1 | h1, h2⟩
        · rcases h2 with h2 | h2
          · exact .inl ⟨h1, h2⟩
          · have := gq h2; omega
        · exact .inr ⟨h1, h2⟩
    · rw [if_neg c, has_append, has_cutP, ov_has hp hq.tail m, has_cons (ps := ps), has_cons (ps := qs)]
      constructor
      · rintro (⟨h1, h2⟩ | ⟨h1, h2⟩)
        · exact ⟨.inl h1, .inl h2⟩
        · exact ⟨h1, .inr h2⟩
      · rintro ⟨h1, h2 | h2⟩
        · rcases h1 with h1 | h1
          · exact .inl ⟨h1, h2⟩
          · have := gp h1; omega
        · exact .inr ⟨h1, h2⟩
termination_by ps qs => ps.length + qs.length
theorem ov_ge : ∀ {ps qs : List (Int × Int)} {r : Int × Int}, r ∈ ov ps qs → (∃ p ∈ ps, p.1 ≤ r.1) ∧ ∃ q ∈ qs, q.1 ≤ r.1
  | [], qs, r, h => by rw [ov_nil_left] at h; simp at h
  | p :: ps, [], r, h => by rw [ov_nil_right] at h; simp at h
  | p :: ps, q :: qs, r, h => by
    rw [ov_cons] at h
    by_cases c : p.2 ≤ q.2
    · rw [if_pos c] at h
      rcases List.mem_append.mp h with h | h
      · have := cutP_mem h
        exact ⟨⟨p, List.mem_cons_self, this.2.1⟩, q, List.mem_cons_self, this.2.2.1⟩
      · obtain ⟨⟨a, ha, h1⟩, h2⟩ := ov_ge h
        exact ⟨⟨a, List.mem_cons_of_mem _ ha, h1⟩, h2⟩
    · rw [if_neg c] at h
      rcases List.mem_append.mp h with h | h
      · have := cutP_mem h
        exact ⟨⟨p, List.mem_cons_self, this.2.1⟩, q, List.mem_cons_self, this.2.2.1⟩
      · obtain ⟨h2, a, ha, h1⟩ := ov_ge h
        exact ⟨h2, a, List.mem_cons_of_mem _ ha, h1⟩
termination_by ps qs => ps.length + qs.length
theorem can_cut_app {p q : Int × Int} {rs : List (Int × Int)} (h : Can rs) (k : ∀ r ∈ rs, ∀ c ∈ cutP p q, c.2 < r.1) : Can (cutP p q ++ rs) := by
  unfold cutP at *
  generalize (if q.1 > p.1 then q.1 else p.1) = b at *
  generalize (if q.2 < p.2 then q.2 else p.2) = e at *
  unfold cutQ at *
  by_cases c : b < e
  · rw [if_pos c] at k ⊢
    exact Can.cons c (fun r hr => k r hr _ List.mem_cons_self) h
  · rw [if_neg c]
    exact h
theorem ov_can : ∀ {ps qs : List (Int × Int)}, Row ps → Row qs → Can (ov ps qs)
  | [], qs, _, _ => by rw [ov_nil_left]; exact Can.nil
  | p :: ps, [], _, _ => by rw [ov_nil_right]; exact Can.nil
  | p :: ps, q :: qs, hp, hq => by
    have po := (List.pairwise_cons.mp hp.ord).1
    have qo := (List.pairwise_cons.mp hq.ord).1
    rw [ov_cons]
    by_cases c : p.2 ≤ q.2
    · rw [if_pos c]
      refine can_cut_app (ov_can hp.tail hq) fun r hr cc hc => ?_
      obtain ⟨⟨a, ha, h1⟩, _⟩ := ov_ge hr
      have := po a ha
      have := (cutP_mem hc).2.2.2.1
      omega
    · rw [if_neg c]
      refine can_cut_app (ov_can hp hq.tail) fun r hr cc hc => ?_
      obtain ⟨_, a, ha, h1⟩ := ov_ge hr
      have := qo a ha
      have := (cutP_mem hc).2.2.2.2
      omega
termination_by ps qs => ps.length + qs.length
theorem ov_len : ∀ {ps qs : List (Int × Int)}, (ov ps qs).length ≤ ps.length + qs.length
  | [], qs => by rw [ov_nil_left]; simp
  | p :: ps, [] => by rw [ov_nil_right]; simp
  | p :: ps, q :: qs => by
    rw [ov_cons]
    have := cutP_len p q
    by_cases c : p.2 ≤ q.2
    · rw [if_pos c, List.length_append]
      have := ov_len (ps := ps) (qs := q :: qs)
      simp only [List.length_cons] at *
      omega
    · rw [if_neg c, List.length_append]
      have := ov_len (ps := p :: ps) (qs := qs)
      simp only [List.length_cons] at *
      omega
termination_by ps qs => ps.length + qs.length
/-! ### without -/
def gp (f : Int) : List (Int × Int) → Int → List (Int × Int)
  | [], l => [(f, l)]
  | p :: ps, l => (f, p.1) :: gp p.2 ps l
theorem gp_zip (l : Int) : ∀ (ps : List (Int × Int)) (f : Int), zipD (D.int f :: ps.map fun p => D.int p.2) ((ps.map fun p => D.int p.1) ++ [D.int l]) = (gp f ps l).map dP
  | [], f => rfl
  | p :: ps, f => by
    have := gp_zip l ps p.2
    unfold zipD at *
    simp only [List.map_cons, List.cons_append, List.zipWith_cons_cons, gp]
    rw [this]
theorem gp_ge : ∀ {ps : List (Int × Int)} {f l : Int}, Can ps → (∀ p ∈ ps, f ≤ p.1) → ∀ r ∈ gp f ps l, f ≤ r.1
  | [], f, l, _, _, r, h => by rw [List.mem_singleton.mp h]; exact Int.le_refl _
  | p :: ps, f, l, hc, hf, r, h => by
    rcases List.mem_cons.mp h with rfl | h
    · exact Int.le_refl _
    · have p0 := hc.bd p List.mem_cons_self
      have po := (List.pairwise_cons.mp hc.ord).1
      have := gp_ge hc.tail (fun q hq => Int.le_of_lt (po q hq)) r h
      have := hf p List.mem_cons_self
      omega
theorem gp_row : ∀ {ps : List (Int × Int)} {f l : Int}, Can ps → (∀ p ∈ ps, f ≤ p.1 ∧ p.2 ≤ l) → f ≤ l → Row (gp f ps l)
  | [], f, l, _, _, h => ⟨fun p hp => by rw [List.mem_singleton.mp hp]; exact h, List.pairwise_singleton _ _⟩
  | p :: ps, f, l, hc, hf, h => by
    have p0 := hc.bd p List.mem_cons_self
    have po := (List.pairwise_cons.mp hc.ord).1
    have hp := hf p List.mem_cons_self
    have ih := gp_row (f := p.2) (l := l) hc.tail (fun q hq => ⟨Int.le_of_lt (po q hq), (hf q (List.mem_cons_of_mem _ hq)).2⟩) hp.2
    refine ⟨fun q hq => ?_, List.pairwise_cons.mpr ⟨fun r hr => ?_, ih.ord⟩⟩
    · rcases List.mem_cons.mp hq with rfl | hq
      · exact hp.1
      · exact ih.bd q hq
    · have := gp_ge hc.tail (fun q hq => Int.le_of_lt (po q hq)) r hr
      simp only
      omega
theorem gp_has : ∀ {ps : List (Int × Int)} {f l : Int}, Can ps → (∀ p ∈ ps, f ≤ p.1 ∧ p.2 ≤ l) → ∀ m, has (gp f ps l) m ↔ (f ≤ m ∧ m < l) ∧ ¬ has ps m
  | [], f, l, _, _, m => by
    unfold gp
    rw [has_cons]
    constructor
    · rintro (h | h)
      · exact ⟨h, has_nil _⟩
      · exact absurd h (has_nil _)
    · intro h; exact .inl h.1
  | p :: ps, f, l, hc, hf, m => by
    have p0 := hc.bd p List.mem_cons_self
    have po := (List.pairwise_cons.mp hc.ord).1
    have hp := hf p List.mem_cons_self
    have ih := gp_has (f := p.2) (l := l) hc.tail (fun q hq => ⟨Int.le_of_lt (po q hq), (hf q (List.mem_cons_of_mem _ hq)).2⟩) m
    unfold gp
    rw [has_cons, ih, has_cons]
    simp only
    constructor
    · rintro (h | ⟨h1, h2⟩)
      · refine ⟨by omega, ?_⟩
        rintro (q | q)
        · omega
        · have := has_ge p0 po q; omega
      · refine ⟨by omega, ?_⟩
        rintro (q | q)
        · omega
        · exact h2 q
    · rintro ⟨h1, h2⟩
      by_cases c : m < p.1
      · exact .inl ⟨h1.1, c⟩
      · right
        refine ⟨⟨?_, h1.2⟩, fun q => h2 (.inr q)⟩
        by_cases c2 : m < p.2
        · exact absurd (.inl ⟨by omega, c2⟩) h2
        · omega
theorem gp_len : ∀ (ps : List (Int × Int)) (f l : Int), (gp f ps l).length = ps.length + 1
  | [], _, _ => rfl
  | p :: ps, f, l => by unfold gp; rw [List.length_cons, gp_len ps, List.length_cons]
/-! ### either -/
def jm : Int × Int → List (Int × Int) → List (Int × Int)
  | c, [] => [c]
  | c, p :: ps => if p.1 ≤ c.2 then jm (c.1, if p.2 > c.2 then p.2 else c.2) ps else c :: jm p ps
def jl : List (Int × Int) → List (Int × Int)
  | [] => []
  | p :: ps => jm p ps
theorem jm_ge : ∀ {ps : List (Int × Int)} {c : Int × Int}, (∀ p ∈ ps, c.1 ≤ p.1) → ps.Pairwise (fun p q => p.1 ≤ q.1) → ∀ r ∈ jm c ps, c.1 ≤ r.1
  | [], c, _, _, r, h => by rw [List.mem_singleton.mp h]; exact Int.le_refl _
  | p :: ps, c, hc, ho, r, h => by
    obtain ⟨h1, h2⟩ := List.pairwise_cons.mp ho
    unfold jm at h
    split at h
    · exact jm_ge (c := (c.1, if p.2 > c.2 then p.2 else c.2)) (fun q hq => hc q (List.mem_cons_of_mem _ hq)) h2 r h
    · rcases List.mem_cons.mp h with rfl | h
      · exact Int.le_refl _
      · have := jm_ge h1 h2 r h
        have := hc p List.mem_cons_self
        omega
theorem jm_can : ∀ {ps : List (Int × Int)} {c : Int × Int}, c.1 < c.2 → (∀ p ∈ ps, p.1 < p.2) → (∀ p ∈ ps, c.1 ≤ p.1) → ps.Pairwise (fun p q => p.1 ≤ q.1) → Can (jm c ps)
  | [], c, h, _, _, _ => Can.cons h (fun q hq => by simp at hq) Can.nil
  | p :: ps, c, h, hp, hc, ho => by
    obtain ⟨h1, h2⟩ := List.pairwise_cons.mp ho
    unfold jm
    split
    · exact jm_can (c := (c.1, if p.2 > c.2 then p.2 else c.2)) (by simp only; split <;> omega) (fun q hq => hp q (List.mem_cons_of_mem _ hq)) (fun q hq => hc q (List.mem_cons_of_mem _ hq)) h2
    · refine Can.cons h (fun q hq => ?_) (jm_can (hp p List.mem_cons_self) (fun q hq => hp q (List.mem_cons_of_mem _ hq)) h1 h2)
      have := jm_ge h1 h2 q hq
      omega
theorem jm_has : ∀ {ps : List (Int × Int)} {c : Int × Int}, c.1 < c.2 → (∀ p ∈ ps, p.1 < p.2) → (∀ p ∈ ps, c.1 ≤ p.1) → ps.Pairwise (fun p q => p.1 ≤ q.1) → ∀ m, has (jm c ps) m ↔ (c.1 ≤ m ∧ m < c.2) ∨ has ps m
  | [], c, _, _, _, _, m => by unfold jm; rw [has_cons]
  | p :: ps, c, h, hp, hc, ho, m => by
    obtain ⟨h1, h2⟩ := List.pairwise_cons.mp ho
    have p0 := hp p List.mem_cons_self
    have c0 := hc p List.mem_cons_self
    unfold jm
    rw [has_cons]
    split
    · rw [jm_has (c := (c.1, if p.2 > c.2 then p.2 else c.2)) (by simp only; split <;> omega) (fun q hq => hp q (List.mem_cons_of_mem _ hq)) (fun q hq => hc q (List.mem_cons_of_mem _ hq)) h2 m]
      simp only
      constructor
      · rintro (q | q)
        · by_cases z : m < c.2
          · exact .inl ⟨q.1, z⟩
          · right; left
            split at q <;> omega
        · exact .inr (.inr q)
      · rintro (q | q | q)
        · left; split <;> omega
        · left; split <;> omega
        · exact .inr q
    · rw [has_cons, jm_has p0 (fun q hq => hp q (List.mem_cons_of_mem _ hq)) h1 h2 m]
theorem jl_can {ps : List (Int × Int)} (hp : ∀ p ∈ ps, p.1 < p.2) (ho : ps.Pairwise (fun p q => p.1 ≤ q.1)) : Can (jl ps) := by
  cases ps with
  | nil => exact Can.nil
  | cons p ps =>
    obtain ⟨h1, h2⟩ := List.pairwise_cons.mp ho
    exact jm_can (hp p List.mem_cons_self) (fun q hq => hp q (List.mem_cons_of_mem _ hq)) h1 h2
theorem jl_has {ps : List (Int × Int)} (hp : ∀ p ∈ ps, p.1 < p.2) (ho : ps.Pairwise (fun p q => p.1 ≤ q.1)) (m : Int) : has (jl ps) m ↔ has ps m := by
  cases ps with
  | nil => exact Iff.rfl
  | cons p ps =>
    obtain ⟨h1, h2⟩ := List.pairwise_cons.mp ho
    unfold jl
    rw [jm_has (hp p List.mem_cons_self) (fun q hq => hp q (List.mem_cons_of_mem _ hq)) h1 h2 m, has_cons]
theorem jm_len : ∀ (ps : List (Int × Int)) (c : Int × Int), (jm c ps).length ≤ ps.length + 1
  | [], c => by simp [jm]
  | p :: ps, c => by
    unfold jm
    split
    · have := jm_len ps (c.1, if p.2 > c.2 then p.2 else c.2)
      simp only [List.length_cons] at *
      omega
    · have := jm_len ps p
      simp only [List.length_cons] at *
      omega
end Nd

namespace Nd
open PySem L2
/-! ### going along the ends -/
abbrev Ev := Int × Int × Int
def evs (w : Int) (ps : List (Int × Int)) : List Ev := ps.map (fun p => (p.1, w, 1)) ++ ps.map (fun p => (p.2, w, 0))
theorem mem_evs {w : Int} {ps : List (Int × Int)} {e : Ev} : e ∈ evs w ps ↔ (∃ p ∈ ps, e = (p.1, w, 1)) ∨ ∃ p ∈ ps, e = (p.2, w, 0) := by
  unfold evs
  rw [List.mem_append, List.mem_map, List.mem_map]
  constructor
  · rintro (⟨p, hp, rfl⟩ | ⟨p, hp, rfl⟩)
    · exact .inl ⟨p, hp, rfl⟩
    · exact .inr ⟨p, hp, rfl⟩
  · rintro (⟨p, hp, rfl⟩ | ⟨p, hp, rfl⟩)
    · exact .inl ⟨p, hp, rfl⟩
    · exact .inr ⟨p, hp, rfl⟩
def opn (w : Int) (ps : List (Int × Int)) (P : List Ev) : Prop := ∃ p ∈ ps, (p.1, w, 1) ∈ P ∧ (p.2, w, 0) ∉ P
structure Evs (ps qs : List (Int × Int)) (E : List Ev) : Prop where
  mem : ∀ e, e ∈ E ↔ e ∈ evs 0 ps ∨ e ∈ evs 1 qs
  srt : E.Pairwise fun a b => a.1 ≤ b.1
theorem pw_cmp {α : Type} {R : α → α → Prop} : ∀ {l : List α}, l.Pairwise R → ∀ {p q : α}, p ∈ l → q ∈ l → p = q ∨ R p q ∨ R q p
  | [], _, p, q, h, _ => by simp at h
  | a :: l, ho, p, q, hp, hq => by
    obtain ⟨h1, h2⟩ := List.pairwise_cons.mp ho
    rcases List.mem_cons.mp hp with e1 | hp'
    · rcases List.mem_cons.mp hq with e2 | hq'
      · exact .inl (e1.trans e2.symm)
      · rw [e1]; exact .inr (.inl (h1 q hq'))
    · rcases List.mem_cons.mp hq with e2 | hq'
      · rw [e2]; exact .inr (.inr (h1 p hp'))
      · exact pw_cmp h2 hp' hq'
theorem ev_ne {a b w v : Int} : ((a, w, 0) : Ev) ≠ (b, v, 1) := fun e => by
  have h : (0 : Int) = 1 := congrArg (fun x : Ev => x.2.2) e
  exact absurd h (by decide)
theorem opn_other {w v m o : Int} {ps : List (Int × Int)} {P : List Ev} (h : v ≠ w) : opn w ps (P ++ [(m, v, o)]) ↔ opn w ps P := by
  have a : ∀ x i, (x, w, i) ∈ P ++ [(m, v, o)] ↔ (x, w, i) ∈ P := fun x i => by
    rw [List.mem_append, List.mem_singleton]
    constructor
    · rintro (q | q)
      · exact q
      · cases q; exact absurd rfl h
    · exact .inl
  unfold opn
  simp only [a]
section
variable {ps qs : List (Int × Int)} {E P r : List Ev} {w m : Int}
theorem opn_begin (cp : Can ps) (hs : E.Pairwise fun a b => a.1 ≤ b.1) (hE : E = P ++ (m, w, 1) :: r) (hm : (m, w, 1) ∈ evs w ps) : opn w ps (P ++ [(m, w, 1)]) := by
  rcases mem_evs.mp hm with ⟨p, hp, e⟩ | ⟨p, hp, e⟩
  · have em : m = p.1 := by cases e; rfl
    subst em
    refine ⟨p, hp, List.mem_append_right _ List.mem_cons_self, fun h => ?_⟩
    have p0 := cp.bd p hp
    rcases List.mem_append.mp h with h | h
    · rw [hE] at hs
      have := (List.pairwise_append.mp hs).2.2 _ h _ List.mem_cons_self
      simp only at this
      omega
    · exact ev_ne (List.mem_singleton.mp h)
  · exact absurd e.symm ev_ne
theorem opn_end (cp : Can ps) (hs : E.Pairwise fun a b => a.1 ≤ b.1) (hE : E = P ++ (m, w, 0) :: r) (hm : (m, w, 0) ∈ evs w ps) (hall : ∀ e ∈ evs w ps, e ∈ E) : ¬ opn w ps (P ++ [(m, w, 0)]) := by
  rintro ⟨q, hq, h1, h2⟩
  rcases mem_evs.mp hm with ⟨p, hp, e⟩ | ⟨p, hp, e⟩
  · exact ev_ne e
  · have em : m = p.2 := by cases e; rfl
    subst em
    rw [hE] at hs
    obtain ⟨s1, s2, s3⟩ := List.pairwise_append.mp hs
    have a1 : q.1 ≤ p.2 := by
      rcases List.mem_append.mp h1 with h | h
      · exact s3 _ h _ List.mem_cons_self
      · exact absurd (List.mem_singleton.mp h).symm ev_ne
    have hqE := hall (q.2, w, 0) (mem_evs.mpr (.inr ⟨q, hq, rfl⟩))
    rw [hE] at hqE
    have ne : q.2 ≠ p.2 := fun e => h2 (by rw [e]; exact List.mem_append_right _ List.mem_cons_self)
    have a2 : p.2 ≤ q.2 := by
      rcases List.mem_append.mp hqE with h | h
      · exact absurd (List.mem_append_left _ h) h2
      · rcases List.mem_cons.mp h with h | h
        · exact absurd (congrArg (fun x : Ev => x.1) h) ne
        · exact (List.pairwise_cons.mp s2).1 _ h
    have p0 := cp.bd p hp
    rcases pw_cmp cp.ord hp hq with e | e | e
    · exact ne (by rw [e])
    · omega
    · omega
theorem opn_has (hE : E = P ++ r) (hall : ∀ e ∈ evs w ps, e ∈ E) {t : Int} (h1 : ∀ e ∈ P, e.1 ≤ t) (h2 : ∀ e ∈ r, t < e.1) : opn w ps P ↔ has ps t := by
  constructor
  · rintro ⟨p, hp, a, b⟩
    refine ⟨p, hp, h1 _ a, ?_⟩
    have := hall (p.2, w, 0) (mem_evs.mpr (.inr ⟨p, hp, rfl⟩))
    rw [hE] at this
    rcases List.mem_append.mp this with h | h
    · exact absurd h b
    · exact h2 _ h
  · rintro ⟨p, hp, a, b⟩
    refine ⟨p, hp, ?_, fun h => ?_⟩
    · have := hall (p.1, w, 1) (mem_evs.mpr (.inl ⟨p, hp, rfl⟩))
      rw [hE] at this
      rcases List.mem_append.mp this with h | h
      · exact h
      · have := h2 _ h
        simp only at this
        omega
    · have := h1 _ h
      simp only at this
      omega
end
/-- a stretch from m to k behind what was told -/
def addS (out : List (Int × Int)) (m k : Int) : List (Int × Int) := match out.getLast? with
  | some q => if q.2 = m then out.dropLast ++ [(q.1, k)] else out ++ [(m, k)]
  | none => [(m, k)]
theorem addS_snoc (ps : List (Int × Int)) (q : Int × Int) (m k : Int) : addS (ps ++ [q]) m k = if q.2 = m then ps ++ [(q.1, k)] else ps ++ [q] ++ [(m, k)] := by
  unfold addS
  rw [List.getLast?_concat]
  simp only [List.dropLast_concat]
theorem addS_ok {out : List (Int × Int)} {m k : Int} (hc : Can out) (h : ∀ q ∈ out, q.2 ≤ m) (hm : m < k) : Can (addS out m k) ∧ (∀ t, has (addS out m k) t ↔ has out t ∨ (m ≤ t ∧ t < k)) ∧ ∀ q ∈ addS out m k, q.2 ≤ k := by
  rcases List.eq_nil_or_concat out with h0 | ⟨ps, q, h0⟩
  · subst h0
    refine ⟨Can.cons hm (fun q hq => by simp at hq) Can.nil, fun t => ?_, fun q hq => ?_⟩
    · show has [(m, k)] t ↔ _
      rw [has_cons]
      exact ⟨fun x => x.elim .inr .inl, fun x => x.elim .inr .inl⟩
    · rw [List.mem_singleton.mp hq]; exact Int.le_refl _
  · rw [List.concat_eq_append] at h0
    subst h0
    obtain ⟨o1, o2, o3⟩ := List.pairwise_append.mp hc.ord
    have hq := h q (List.mem_append_right _ List.mem_cons_self)
    have q0 := hc.bd q (List.mem_append_right _ List.mem_cons_self)
    rw [addS_snoc]
    by_cases c : q.2 = m
    · rw [if_pos c]
      refine ⟨⟨fun p hp => ?_, List.pairwise_append.mpr ⟨o1, List.pairwise_singleton _ _, fun p hp x hx => ?_⟩⟩, fun t => ?_, fun p hp => ?_⟩
      · rcases List.mem_append.mp hp with hp | hp
        · exact hc.bd p (List.mem_append_left _ hp)
        · rw [List.mem_singleton.mp hp]; simp only; omega
      · rw [List.mem_singleton.mp hx]
        exact o3 p hp q List.mem_cons_self
      · rw [has_append, has_append, has_cons, has_cons]
        simp only
        constructor
        · rintro (x | x | x)
          · exact .inl (.inl x)
          · by_cases z : t < m
            · exact .inl (.inr (.inl (by omega)))
            · exact .inr (by omega)
          · exact absurd x (has_nil _)
        · rintro ((x | x | x) | x)
          · exact .inl x
          · exact .inr (.inl (by omega))
          · exact absurd x (has_nil _)
          · exact .inr (.inl (by omega))
      · rcases List.mem_append.mp hp with hp | hp
        · have := h p (List.mem_append_left _ hp); omega
        · rw [List.mem_singleton.mp hp]; exact Int.le_refl _
    · rw [if_neg c]
      refine ⟨⟨fun p hp => ?_, List.pairwise_append.mpr ⟨hc.ord, List.pairwise_singleton _ _, fun p hp x hx => ?_⟩⟩, fun t => ?_, fun p hp => ?_⟩
      · rcases List.mem_append.mp hp with hp | hp
        · exact hc.bd p hp
        · rw [List.mem_singleton.mp hp]; exact hm
      · rw [List.mem_singleton.mp hx]
        simp only
        rcases List.mem_append.mp hp with hp | hp
        · have := o3 p hp q List.mem_cons_self
          omega
        · rw [List.mem_singleton.mp hp]
          omega
      · rw [has_append, has_cons]
        simp only
        exact ⟨fun x => x.elim .inl fun x => x.elim .inr fun x => absurd x (has_nil _), fun x => x.elim .inl fun x => .inr (.inl x)⟩
      · rcases List.mem_append.mp hp with hp | hp
        · have := h p hp; omega
        · rw [List.mem_singleton.mp hp]; exact Int.le_refl _
def byF (wt : Int → Int → Bool) : Int → Int → List (Int × Int) → List Ev → List (Int × Int)
  | _, _, out, [] => out
  | h0, h1, out, (m, w, o) :: r => match r with
    | [] => out
    | (k, _, _) :: _ => byF wt (if w = 0 then o else h0) (if w = 1 then o else h1) (if k > m ∧ wt (if w = 0 then o else h0) (if w = 1 then o else h1) = true then addS out m k else out) r
theorem byF_cons (wt : Int → Int → Bool) (h0 h1 : Int) (out : List (Int × Int)) (m w o k w2 o2 : Int) (r : List Ev) : byF wt h0 h1 out ((m, w, o) :: (k, w2, o2) :: r) = byF wt (if w = 0 then o else h0) (if w = 1 then o else h1) (if k > m ∧ wt (if w = 0 then o else h0) (if w = 1 then o else h1) = true then addS out m k else out) ((k, w2, o2) :: r) := rfl
/-- the minutes that are wanted -/
def bW (wt : Int → Int → Bool) (ps qs : List (Int × Int)) (t : Int) : Prop := ∃ i j : Int, ((i = 1 ∧ has ps t) ∨ (i = 0 ∧ ¬ has ps t)) ∧ ((j = 1 ∧ has qs t) ∨ (j = 0 ∧ ¬ has qs t)) ∧ wt i j = true
theorem bW_of {wt : Int → Int → Bool} {ps qs : List (Int × Int)} {t i j : Int} (h1 : (i = 1 ∧ has ps t) ∨ (i = 0 ∧ ¬ has ps t)) (h2 : (j = 1 ∧ has qs t) ∨ (j = 0 ∧ ¬ has qs t)) : bW wt ps qs t ↔ wt i j = true := by
  constructor
  · rintro ⟨a, b, k1, k2, k3⟩
    have e1 : a = i := by
      rcases h1 with ⟨h1, x⟩ | ⟨h1, x⟩ <;> rcases k1 with ⟨k1, y⟩ | ⟨k1, y⟩
      · omega
      · exact absurd x y
      · exact absurd y x
      · omega
    have e2 : b = j := by
      rcases h2 with ⟨h1, x⟩ | ⟨h1, x⟩ <;> rcases k2 with ⟨k1, y⟩ | ⟨k1, y⟩
      · omega
      · exact absurd x y
      · exact absurd y x
      · omega
    rw [← e1, ← e2]; exact k3
  · intro h
    exact ⟨i, j, h1, h2, h⟩
theorem by_ok {wt : Int → Int → Bool} (h00 : wt 0 0 = false) {ps qs : List (Int × Int)} (cp : Can ps) (cq : Can qs) {E : List Ev} (hE : Evs ps qs E) : ∀ (r P : List Ev) (h0 h1 : Int) (out : List (Int × Int)), E = P ++ r →
    ((h0 = 1 ∧ opn 0 ps P) ∨ (h0 = 0 ∧ ¬ opn 0 ps P)) → ((h1 = 1 ∧ opn 1 qs P) ∨ (h1 = 0 ∧ ¬ opn 1 qs P)) → Can out → (∀ q ∈ out, ∀ e ∈ r, q.2 ≤ e.1) → (∀ t, has out t ↔ (∀ e ∈ r, t < e.1) ∧ bW wt ps qs t) →
    Can (byF wt h0 h1 out r) ∧ ∀ t, has (byF wt h0 h1 out r) t ↔ bW wt ps qs t := by
  have ap : ∀ e ∈ evs 0 ps, e ∈ E := fun e h => (hE.mem e).mpr (.inl h)
  have aq : ∀ e ∈ evs 1 qs, e ∈ E := fun e h => (hE.mem e).mpr (.inr h)
  intro r
  induction r with
  | nil =>
    intro P h0 h1 out hP i0 i1 hc _ hm
    refine ⟨hc, fun t => ?_⟩
    show has out t ↔ _
    rw [hm t]
    exact ⟨fun h => h.2, fun h => ⟨fun e he => by simp at he, h⟩⟩
  | cons e r ih =>
    obtain ⟨m, w, o⟩ := e
    intro P h0 h1 out hP i0 i1 hc hle hm
    have hin : (m, w, o) ∈ E := by rw [hP]; exact List.mem_append_right _ List.mem_cons_self
    have srt := hE.srt
    rw [hP] at srt
    obtain ⟨s1, s2, s3⟩ := List.pairwise_append.mp srt
    obtain ⟨s4, s5⟩ := List.pairwise_cons.mp s2
    have hP' : E = (P ++ [(m, w, o)]) ++ r := by rw [hP]; simp
    -- the state behind this end
    have j : (((if w = 0 then o else h0) = 1 ∧ opn 0 ps (P ++ [(m, w, o)])) ∨ ((if w = 0 then o else h0) = 0 ∧ ¬ opn 0 ps (P ++ [(m, w, o)]))) ∧ (((if w = 1 then o else h1) = 1 ∧ opn 1 qs (P ++ [(m, w, o)])) ∨ ((if w = 1 then o else h1) = 0 ∧ ¬ opn 1 qs (P ++ [(m, w, o)]))) := by
      rcases (hE.mem _).mp hin with h | h
      · have hw : w = 0 := by rcases mem_evs.mp h with ⟨p, _, e⟩ | ⟨p, _, e⟩ <;> cases e <;> rfl
        subst hw
        rw [opn_other (w := 1) (by decide)]
        refine ⟨?_, i1⟩
        rw [if_pos rfl]
        rcases mem_evs.mp h with ⟨p, hp, e⟩ | ⟨p, hp, e⟩
        · cases e
          exact .inl ⟨rfl, opn_begin cp hE.srt hP h⟩
        · cases e
          exact .inr ⟨rfl, opn_end cp hE.srt hP h ap⟩
      · have hw : w = 1 := by rcases mem_evs.mp h with ⟨p, _, e⟩ | ⟨p, _, e⟩ <;> cases e <;> rfl
        subst hw
        rw [opn_other (w := 0) (by decide)]
        refine ⟨i0, ?_⟩
        rw [if_pos rfl]
        rcases mem_evs.mp h with ⟨p, hp, e⟩ | ⟨p, hp, e⟩
        · cases e
          exact .inl ⟨rfl, opn_begin cq hE.srt hP h⟩
        · cases e
          exact .inr ⟨rfl, opn_end cq hE.srt hP h aq⟩
    obtain ⟨j0, j1⟩ := j
    have hle2 : ∀ e ∈ P ++ [(m, w, o)], e.1 ≤ m := fun e he => by
      rcases List.mem_append.mp he with he | he
      · exact s3 e he _ List.mem_cons_self
      · rw [List.mem_singleton.mp he]; exact Int.le_refl _
    -- minutes from this end on, ahead of the next one
    have seg : ∀ t, m ≤ t → (∀ e ∈ r, t < e.1) → (bW wt ps qs t ↔ wt (if w = 0 then o else h0) (if w = 1 then o else h1) = true) := fun t ht hr => by
      have q0 := opn_has (w := 0) hP' ap (t := t) (fun e he => Int.le_trans (hle2 e he) ht) hr
      have q1 := opn_has (w := 1) hP' aq (t := t) (fun e he => Int.le_trans (hle2 e he) ht) hr
      rw [q0] at j0
      rw [q1] at j1
      exact bW_of j0 j1
    cases r with
    | nil =>
      refine ⟨hc, fun t => ?_⟩
      show has out t ↔ _
      rw [hm t]
      refine ⟨fun h => h.2, fun h => ⟨fun e he => ?_, h⟩⟩
      rw [List.mem_singleton.mp he]
      by_cases z : t < m
      · exact z
      · exfalso
        have hb := (seg t (by omega) (fun e he => by simp at he)).mp h
        have n0 : ¬ opn 0 ps (P ++ [(m, w, o)]) := fun ⟨p, hp, a, b⟩ => b (by
          have := ap (p.2, 0, 0) (mem_evs.mpr (.inr ⟨p, hp, rfl⟩))
          rw [hP'] at this
          simpa using this)
        have n1 : ¬ opn 1 qs (P ++ [(m, w, o)]) := fun ⟨p, hp, a, b⟩ => b (by
          have := aq (p.2, 1, 0) (mem_evs.mpr (.inr ⟨p, hp, rfl⟩))
          rw [hP'] at this
          simpa using this)
        rcases j0 with ⟨_, x⟩ | ⟨e0, _⟩
        · exact n0 x
        · rcases j1 with ⟨_, x⟩ | ⟨e1, _⟩
          · exact n1 x
          · rw [e0, e1, h00] at hb; cases hb
    | cons e r =>
      obtain ⟨k, w2, o2⟩ := e
      have mk : m ≤ k := s4 _ List.mem_cons_self
      have kr : ∀ e ∈ (k, w2, o2) :: r, k ≤ e.1 := fun e he => by
        rcases List.mem_cons.mp he with rfl | he
        · exact Int.le_refl _
        · exact (List.pairwise_cons.mp s5).1 e he
      have out1 : ∀ q ∈ out, q.2 ≤ m := fun q hq => hle q hq _ List.mem_cons_self
      have all_m : ∀ t, (∀ e ∈ (m, w, o) :: (k, w2, o2) :: r, t < e.1) ↔ t < m := fun t => ⟨fun h => h _ List.mem_cons_self, fun h e he => by
        rcases List.mem_cons.mp he with rfl | he
        · exact h
        · have := kr e he; omega⟩
      have all_k : ∀ t, (∀ e ∈ (k, w2, o2) :: r, t < e.1) ↔ t < k := fun t => ⟨fun h => h _ List.mem_cons_self, fun h e he => by have := kr e he; omega⟩
      rw [byF_cons]
      by_cases c : k > m ∧ wt (if w = 0 then o else h0) (if w = 1 then o else h1) = true
      · obtain ⟨a1, a2, a3⟩ := addS_ok hc out1 (k := k) (by omega)
        rw [if_pos c]
        refine ih (P ++ [(m, w, o)]) _ _ _ hP' j0 j1 a1 (fun q hq e he => Int.le_trans (a3 q hq) (kr e he)) fun t => ?_
        rw [a2 t, hm t, all_m t, all_k t]
        constructor
        · rintro (⟨h1, h2⟩ | h)
          · exact ⟨by omega, h2⟩
          · exact ⟨h.2, (seg t h.1 ((all_k t).mpr h.2)).mpr c.2⟩
        · rintro ⟨h1, h2⟩
          by_cases z : t < m
          · exact .inl ⟨z, h2⟩
          · exact .inr ⟨by omega, h1⟩
      · rw [if_neg c]
        refine ih (P ++ [(m, w, o)]) _ _ _ hP' j0 j1 hc (fun q hq e he => by have := out1 q hq; have := kr e he; omega) fun t => ?_
        rw [hm t, all_m t, all_k t]
        constructor
        · rintro ⟨h1, h2⟩
          exact ⟨by omega, h2⟩
        · rintro ⟨h1, h2⟩
          refine ⟨?_, h2⟩
          by_cases z : t < m
          · exact z
          · exfalso
            exact c ⟨by omega, (seg t (by omega) ((all_k t).mpr h1)).mp h2⟩
theorem by_all {wt : Int → Int → Bool} (h00 : wt 0 0 = false) {ps qs : List (Int × Int)} (cp : Can ps) (cq : Can qs) {E : List Ev} (hE : Evs ps qs E) : Can (byF wt 0 0 [] E) ∧ ∀ t, has (byF wt 0 0 [] E) t ↔ bW wt ps qs t := by
  refine by_ok h00 cp cq hE E [] 0 0 [] rfl (.inr ⟨rfl, fun ⟨p, _, h, _⟩ => by simp at h⟩) (.inr ⟨rfl, fun ⟨p, _, h, _⟩ => by simp at h⟩) Can.nil (fun q hq => by simp at hq) fun t => ?_
  refine ⟨fun h => absurd h (has_nil _), fun ⟨h1, h2⟩ => ?_⟩
  exfalso
  have n0 : ¬ has ps t := fun ⟨p, hp, a, b⟩ => by
    have := h1 (p.1, 0, 1) ((hE.mem _).mpr (.inl (mem_evs.mpr (.inl ⟨p, hp, rfl⟩))))
    simp only at this
    omega
  have n1 : ¬ has qs t := fun ⟨p, hp, a, b⟩ => by
    have := h1 (p.1, 1, 1) ((hE.mem _).mpr (.inr (mem_evs.mpr (.inl ⟨p, hp, rfl⟩))))
    simp only at this
    omega
  have := (bW_of (wt := wt) (.inr ⟨rfl, n0⟩) (.inr ⟨rfl, n1⟩)).mp h2
  rw [h00] at this
  cases this
end Nd

namespace Nd
open PySem L2
abbrev HMixed (f : List D → RE) : Prop := ∀ n k : Int, 0 ≤ k → k < 1000000 → ∃ v, 0 ≤ v ∧ f [.int n, .int k] = .ok (.p (.int v))
theorem g_mixed : HMixed G__law_mixed := by
  intro n k h0 h1
  have c1 : cMul 7919 k = true := cMul_l (by decide) (by decide)
  have c2 : cMul (7919 * k) k = true := cMul_r (by omega) (by omega)
  have c3 : cMul 31 k = true := cMul_l (by decide) (by decide)
  have c4 : ∀ z, cMul z 48271 = true := fun z => cMul_r (by decide) (by decide)
  have c5 : cMul 2 k = true := cMul_l (by decide) (by decide)
  have c6 : ∀ z, cMul z (69621 + 2 * k) = true := fun z => cMul_r (by omega) (by omega)
  refine ⟨(n % 2147483647 + 7919 * k * k + 31 * k) * 48271 % 2147483647 * (69621 + 2 * k) % 2147483629, Int.emod_nonneg _ (by decide), ?_⟩
  unfold G__law_mixed
  simp only [mDef, env0, mSeq, mAsg, mAsgF, mAsgT, mB, mV, mC, mRet, mRetV, mIfS, asB, mCall, mCons, mNil, mConsT, mNilT, mL, mTup, mCB, mIf, mNot, mAnd, mOr, mTru, mAndV, mOrV, mNotV, mU, mChI, mO, mSl, mFrz, mBw, mBwB, mNext, frzE, iSeq, iRng1, iRng2, iRng3, iEnumD, iZipD, gN, gT, gC, gNl, mDrop, D.tru, dAdd, dSub, dMul, dMod, dFdiv, dPow, dII, dCmp, dNeg, dIs, dIsNot, D.isN, D.isB, fLen, fMax2, fMin2, T.toD, T.toDs, T.im, T.ims, D.im, D.ims, List.map_cons, List.map_nil, List.length_cons, List.length_nil, List.cons_append, List.nil_append, List.append_nil, List.replicate_zero, List.replicate_succ, List.getElem?_cons_zero, List.getElem?_cons_succ, List.set_cons_zero, List.set_cons_succ, Nat.reduceAdd, Nat.reduceSub, Nat.reduceLT, Nat.reduceLeDiff, Nat.zero_add, Nat.sub_self, Option.map_some, Option.map_none, if_true, if_false, decide_true, decide_false, Bool.and_true, Bool.true_and, Bool.false_and, Bool.and_false, Bool.not_true, Bool.not_false, reduceIte, reduceCtorEq, szl, Nat.zero_le, List.length_map, dEq, dNe, dIx, dSl, toDs_p, toDs_g, toDs_gi, toDs_gp, List.map_map, Int.reduceLT, Int.reduceLE, Int.reduceAdd, Int.reduceSub, decide_not, dEqB_nn, dEqB_ints0, dEqB_ints, dEqB_int, dEqB_bl, List.map_append, fIsi, D.tyN, Option.bind_some, fSum, fAny, fAll, ints_g, bls_g, D.ints_map, kit_int_int, kit_bool_int, kit_NoneType_int, kit_str_int, kit_list_int, kit_tuple_int, kit_dict_int, kit_int_bool, kit_bool_bool, kit_NoneType_bool, kit_str_bool, kit_list_bool, kit_tuple_bool, kit_dict_bool, kit_int_list, kit_bool_list, kit_NoneType_list, kit_str_list, kit_list_list, kit_tuple_list, kit_dict_list, kit_int_tuple, kit_bool_tuple, kit_NoneType_tuple, kit_str_tuple, kit_list_tuple, kit_tuple_tuple, kit_dict_tuple, kit_int_str, kit_bool_str, kit_NoneType_str, kit_str_str, kit_list_str, kit_tuple_str, kit_dict_str, nc0, nc1, nc2, nc3, nc4, nc5, nc6, nc7, nc8, toDs_c, dEqB_dS0, fMin1, fMax1, toDs_append, c1, c2, c3, c4, c5, c6, Int.reduceLT]

abbrev HNumber (f : List D → RE) : Prop := ∀ ns : List Int, ∃ v, 0 ≤ v ∧ f [.lst (ns.map D.int), .int 90] = .ok (.p (.int v))
theorem g_number {M__law_mixed : List D → RE} (e_mixed : HMixed M__law_mixed) : HNumber (G__law_number M__law_mixed) := by
  intro ns
  by_cases h : ns = []
  · obtain ⟨v, h0, hv⟩ := e_mixed 17 90 (by decide) (by decide)
    refine ⟨v, h0, ?_⟩
    subst h
    unfold G__law_number
    simp only [mDef, env0, mSeq, mAsg, mAsgF, mAsgT, mB, mV, mC, mRet, mRetV, mIfS, asB, mCall, mCons, mNil, mConsT, mNilT, mL, mTup, mCB, mIf, mNot, mAnd, mOr, mTru, mAndV, mOrV, mNotV, mU, mChI, mO, mSl, mFrz, mBw, mBwB, mNext, frzE, iSeq, iRng1, iRng2, iRng3, iEnumD, iZipD, gN, gT, gC, gNl, mDrop, D.tru, dAdd, dSub, dMul, dMod, dFdiv, dPow, dII, dCmp, dNeg, dIs, dIsNot, D.isN, D.isB, fLen, fMax2, fMin2, T.toD, T.toDs, T.im, T.ims, D.im, D.ims, List.map_cons, List.map_nil, List.length_cons, List.length_nil, List.cons_append, List.nil_append, List.append_nil, List.replicate_zero, List.replicate_succ, List.getElem?_cons_zero, List.getElem?_cons_succ, List.set_cons_zero, List.set_cons_succ, Nat.reduceAdd, Nat.reduceSub, Nat.reduceLT, Nat.reduceLeDiff, Nat.zero_add, Nat.sub_self, Option.map_some, Option.map_none, if_true, if_false, decide_true, decide_false, Bool.and_true, Bool.true_and, Bool.false_and, Bool.and_false, Bool.not_true, Bool.not_false, reduceIte, reduceCtorEq, szl, Nat.zero_le, List.length_map, dEq, dNe, dIx, dSl, toDs_p, toDs_g, toDs_gi, toDs_gp, List.map_map, Int.reduceLT, Int.reduceLE, Int.reduceAdd, Int.reduceSub, decide_not, dEqB_nn, dEqB_ints0, dEqB_ints, dEqB_int, dEqB_bl, List.map_append, fIsi, D.tyN, Option.bind_some, fSum, fAny, fAll, ints_g, bls_g, D.ints_map, kit_int_int, kit_bool_int, kit_NoneType_int, kit_str_int, kit_list_int, kit_tuple_int, kit_dict_int, kit_int_bool, kit_bool_bool, kit_NoneType_bool, kit_str_bool, kit_list_bool, kit_tuple_bool, kit_dict_bool, kit_int_list, kit_bool_list, kit_NoneType_list, kit_str_list, kit_list_list, kit_tuple_list, kit_dict_list, kit_int_tuple, kit_bool_tuple, kit_NoneType_tuple, kit_str_tuple, kit_list_tuple, kit_tuple_tuple, kit_dict_tuple, kit_int_str, kit_bool_str, kit_NoneType_str, kit_str_str, kit_list_str, kit_tuple_str, kit_dict_str, nc0, nc1, nc2, nc3, nc4, nc5, nc6, nc7, nc8, toDs_c, dEqB_dS0, fMin1, fMax1, toDs_append, hv]
  · have hl : (0 : Int) < ns.length := by have := List.length_pos_iff.mpr h; omega
    obtain ⟨x, hx, hx2⟩ := atI_mod (xs := ns.map D.int) (by simpa using h) 90
    obtain ⟨n, _, rfl⟩ := List.mem_map.mp hx
    rw [List.length_map] at hx2
    obtain ⟨v, h0, hv⟩ := e_mixed n 90 (by decide) (by decide)
    refine ⟨v, h0, ?_⟩
    unfold G__law_number
    simp only [mDef, env0, mSeq, mAsg, mAsgF, mAsgT, mB, mV, mC, mRet, mRetV, mIfS, asB, mCall, mCons, mNil, mConsT, mNilT, mL, mTup, mCB, mIf, mNot, mAnd, mOr, mTru, mAndV, mOrV, mNotV, mU, mChI, mO, mSl, mFrz, mBw, mBwB, mNext, frzE, iSeq, iRng1, iRng2, iRng3, iEnumD, iZipD, gN, gT, gC, gNl, mDrop, D.tru, dAdd, dSub, dMul, dMod, dFdiv, dPow, dII, dCmp, dNeg, dIs, dIsNot, D.isN, D.isB, fLen, fMax2, fMin2, T.toD, T.toDs, T.im, T.ims, D.im, D.ims, List.map_cons, List.map_nil, List.length_cons, List.length_nil, List.cons_append, List.nil_append, List.append_nil, List.replicate_zero, List.replicate_succ, List.getElem?_cons_zero, List.getElem?_cons_succ, List.set_cons_zero, List.set_cons_succ, Nat.reduceAdd, Nat.reduceSub, Nat.reduceLT, Nat.reduceLeDiff, Nat.zero_add, Nat.sub_self, Option.map_some, Option.map_none, if_true, if_false, decide_true, decide_false, Bool.and_true, Bool.true_and, Bool.false_and, Bool.and_false, Bool.not_true, Bool.not_false, reduceIte, reduceCtorEq, szl, Nat.zero_le, List.length_map, dEq, dNe, dIx, dSl, toDs_p, toDs_g, toDs_gi, toDs_gp, List.map_map, Int.reduceLT, Int.reduceLE, Int.reduceAdd, Int.reduceSub, decide_not, dEqB_nn, dEqB_ints0, dEqB_ints, dEqB_int, dEqB_bl, List.map_append, fIsi, D.tyN, Option.bind_some, fSum, fAny, fAll, ints_g, bls_g, D.ints_map, kit_int_int, kit_bool_int, kit_NoneType_int, kit_str_int, kit_list_int, kit_tuple_int, kit_dict_int, kit_int_bool, kit_bool_bool, kit_NoneType_bool, kit_str_bool, kit_list_bool, kit_tuple_bool, kit_dict_bool, kit_int_list, kit_bool_list, kit_NoneType_list, kit_str_list, kit_list_list, kit_tuple_list, kit_dict_list, kit_int_tuple, kit_bool_tuple, kit_NoneType_tuple, kit_str_tuple, kit_list_tuple, kit_tuple_tuple, kit_dict_tuple, kit_int_str, kit_bool_str, kit_NoneType_str, kit_str_str, kit_list_str, kit_tuple_str, kit_dict_str, nc0, nc1, nc2, nc3, nc4, nc5, nc6, nc7, nc8, toDs_c, dEqB_dS0, fMin1, fMax1, toDs_append, h, hl, hx2, hv]

structure Good (ps : List (Int × Int)) : Prop where
  len : ps.length ≤ 63
  bd : ∀ p ∈ ps, 0 ≤ p.1 ∧ p.1 < p.2 ∧ p.2 ≤ 1000000
  ord : ps.Pairwise fun p q => p.2 < q.1
abbrev HPieces (f : List D → RE) : Prop := ∀ xs : List Int, xs.length ≤ 63 → (∀ x ∈ xs, 0 ≤ x ∧ x ≤ 1000000) → ∃ ps, Good ps ∧ f [.lst (xs.map D.int)] = .ok (.l (ps.map fun p => .p (dP p)))
theorem g_pieces : HPieces G__law_pieces := by
  intro xs hl hb
  have hs := usort_rising xs
  have hsl : (usort xs).length ≤ 63 := by have := usort_len_le (xs := xs); omega
  have hsb : ∀ x ∈ usort xs, 0 ≤ x ∧ x ≤ 1000000 := fun x hx => hb x (mem_usort.mp hx)
  have hl64 : xs.length < 64 := by omega
  generalize hes : usort xs = s at hs hsl hsb
  have hlt : ∀ i j, (h : i < j) → (hj : j < s.length) → s[i] < s[j] := fun i j h hj => List.pairwise_iff_getElem.mp hs i j (by omega) hj h
  have hr : Builtin.Range.rangeSize 0 ((s.length : Int) - 1) 2 = ((s.length / 2 : Nat) : Int) := by
    unfold Builtin.Range.rangeSize
    rw [if_pos (by decide)]
    split <;> omega
  have hsm : Builtin.Range.small 0 ((s.length : Int) - 1) 2 = true := by
    have h1 : ∀ i : Int, -5 ≤ i → i ≤ 1000 → Builtin.Range.rangeFitsLong i = true := fun i a b => by
      unfold Builtin.Range.rangeFitsLong
      rw [decide_eq_true (by omega), decide_eq_true (by omega)]; rfl
    unfold Builtin.Range.small
    rw [hr, h1 0 (by decide) (by decide), h1 2 (by decide) (by decide), h1 _ (by omega) (by omega), h1 _ (by omega) (by omega), if_pos (by decide), h1 _ (by omega) (by omega)]
    simp
  refine ⟨(List.range (s.length / 2)).map fun i => (s.getD (2 * i) 0, s.getD (2 * i + 1) 0), ⟨?_, ?_, ?_⟩, ?_⟩
  · rw [List.length_map, List.length_range]; omega
  · intro p hp
    obtain ⟨i, hi, rfl⟩ := List.mem_map.mp hp
    have hi := List.mem_range.mp hi
    have a : 2 * i < s.length := by omega
    have b : 2 * i + 1 < s.length := by omega
    simp only [List.getD_eq_getElem?_getD, List.getElem?_eq_getElem a, List.getElem?_eq_getElem b, Option.getD_some]
    exact ⟨(hsb _ (List.getElem_mem a)).1, hlt _ _ (by omega) b, (hsb _ (List.getElem_mem b)).2⟩
  · rw [List.pairwise_map]
    refine List.Pairwise.imp_of_mem ?_ (List.pairwise_lt_range (n := s.length / 2))
    intro i j hi hj hij
    have hi := List.mem_range.mp hi
    have hj := List.mem_range.mp hj
    have a : 2 * i + 1 < s.length := by omega
    have b : 2 * j < s.length := by omega
    simp only [List.getD_eq_getElem?_getD, List.getElem?_eq_getElem a, List.getElem?_eq_getElem b, Option.getD_some]
    exact hlt _ _ (by omega) b
  · unfold G__law_pieces
    simp only [mDef, env0, mSeq, mAsg, mAsgF, mAsgT, mB, mV, mC, mRet, mRetV, mIfS, asB, mCall, mCons, mNil, mConsT, mNilT, mL, mTup, mCB, mIf, mNot, mAnd, mOr, mTru, mAndV, mOrV, mNotV, mU, mChI, mO, mSl, mFrz, mBw, mBwB, mNext, frzE, iSeq, iRng1, iRng2, iRng3, iEnumD, iZipD, gN, gT, gC, gNl, mDrop, D.tru, dAdd, dSub, dMul, dMod, dFdiv, dPow, dII, dCmp, dNeg, dIs, dIsNot, D.isN, D.isB, fLen, fMax2, fMin2, T.toD, T.toDs, T.im, T.ims, D.im, D.ims, List.map_cons, List.map_nil, List.length_cons, List.length_nil, List.cons_append, List.nil_append, List.append_nil, List.replicate_zero, List.replicate_succ, List.getElem?_cons_zero, List.getElem?_cons_succ, List.set_cons_zero, List.set_cons_succ, Nat.reduceAdd, Nat.reduceSub, Nat.reduceLT, Nat.reduceLeDiff, Nat.zero_add, Nat.sub_self, Option.map_some, Option.map_none, if_true, if_false, decide_true, decide_false, Bool.and_true, Bool.true_and, Bool.false_and, Bool.and_false, Bool.not_true, Bool.not_false, reduceIte, reduceCtorEq, szl, Nat.zero_le, List.length_map, dEq, dNe, dIx, dSl, toDs_p, toDs_g, toDs_gi, toDs_gp, List.map_map, Int.reduceLT, Int.reduceLE, Int.reduceAdd, Int.reduceSub, decide_not, dEqB_nn, dEqB_ints0, dEqB_ints, dEqB_int, dEqB_bl, List.map_append, fIsi, D.tyN, Option.bind_some, fSum, fAny, fAll, ints_g, bls_g, D.ints_map, kit_int_int, kit_bool_int, kit_NoneType_int, kit_str_int, kit_list_int, kit_tuple_int, kit_dict_int, kit_int_bool, kit_bool_bool, kit_NoneType_bool, kit_str_bool, kit_list_bool, kit_tuple_bool, kit_dict_bool, kit_int_list, kit_bool_list, kit_NoneType_list, kit_str_list, kit_list_list, kit_tuple_list, kit_dict_list, kit_int_tuple, kit_bool_tuple, kit_NoneType_tuple, kit_str_tuple, kit_list_tuple, kit_tuple_tuple, kit_dict_tuple, kit_int_str, kit_bool_str, kit_NoneType_str, kit_str_str, kit_list_str, kit_tuple_str, kit_dict_str, nc0, nc1, nc2, nc3, nc4, nc5, nc6, nc7, nc8, toDs_c, dEqB_dS0, fMin1, fMax1, toDs_append, fSrtSet, D.ints_map, Option.bind_some, hl64, hes]
    rw [mLc_all (List.range (s.length / 2)) (fun (i : Nat) => D.int (0 + (i : Int) * 2)) (fun i => T.p (dP (s.getD (2 * i) 0, s.getD (2 * i + 1) 0)))]
    · simp only [mDef, env0, mSeq, mAsg, mAsgF, mAsgT, mB, mV, mC, mRet, mRetV, mIfS, asB, mCall, mCons, mNil, mConsT, mNilT, mL, mTup, mCB, mIf, mNot, mAnd, mOr, mTru, mAndV, mOrV, mNotV, mU, mChI, mO, mSl, mFrz, mBw, mBwB, mNext, frzE, iSeq, iRng1, iRng2, iRng3, iEnumD, iZipD, gN, gT, gC, gNl, mDrop, D.tru, dAdd, dSub, dMul, dMod, dFdiv, dPow, dII, dCmp, dNeg, dIs, dIsNot, D.isN, D.isB, fLen, fMax2, fMin2, T.toD, T.toDs, T.im, T.ims, D.im, D.ims, List.map_cons, List.map_nil, List.length_cons, List.length_nil, List.cons_append, List.nil_append, List.append_nil, List.replicate_zero, List.replicate_succ, List.getElem?_cons_zero, List.getElem?_cons_succ, List.set_cons_zero, List.set_cons_succ, Nat.reduceAdd, Nat.reduceSub, Nat.reduceLT, Nat.reduceLeDiff, Nat.zero_add, Nat.sub_self, Option.map_some, Option.map_none, if_true, if_false, decide_true, decide_false, Bool.and_true, Bool.true_and, Bool.false_and, Bool.and_false, Bool.not_true, Bool.not_false, reduceIte, reduceCtorEq, szl, Nat.zero_le, List.length_map, dEq, dNe, dIx, dSl, toDs_p, toDs_g, toDs_gi, toDs_gp, List.map_map, Int.reduceLT, Int.reduceLE, Int.reduceAdd, Int.reduceSub, decide_not, dEqB_nn, dEqB_ints0, dEqB_ints, dEqB_int, dEqB_bl, List.map_append, fIsi, D.tyN, Option.bind_some, fSum, fAny, fAll, ints_g, bls_g, D.ints_map, kit_int_int, kit_bool_int, kit_NoneType_int, kit_str_int, kit_list_int, kit_tuple_int, kit_dict_int, kit_int_bool, kit_bool_bool, kit_NoneType_bool, kit_str_bool, kit_list_bool, kit_tuple_bool, kit_dict_bool, kit_int_list, kit_bool_list, kit_NoneType_list, kit_str_list, kit_list_list, kit_tuple_list, kit_dict_list, kit_int_tuple, kit_bool_tuple, kit_NoneType_tuple, kit_str_tuple, kit_list_tuple, kit_tuple_tuple, kit_dict_tuple, kit_int_str, kit_bool_str, kit_NoneType_str, kit_str_str, kit_list_str, kit_tuple_str, kit_dict_str, nc0, nc1, nc2, nc3, nc4, nc5, nc6, nc7, nc8, toDs_c, dEqB_dS0, fMin1, fMax1, toDs_append]
      rfl
    · simp only [mDef, env0, mSeq, mAsg, mAsgF, mAsgT, mB, mV, mC, mRet, mRetV, mIfS, asB, mCall, mCons, mNil, mConsT, mNilT, mL, mTup, mCB, mIf, mNot, mAnd, mOr, mTru, mAndV, mOrV, mNotV, mU, mChI, mO, mSl, mFrz, mBw, mBwB, mNext, frzE, iSeq, iRng1, iRng2, iRng3, iEnumD, iZipD, gN, gT, gC, gNl, mDrop, D.tru, dAdd, dSub, dMul, dMod, dFdiv, dPow, dII, dCmp, dNeg, dIs, dIsNot, D.isN, D.isB, fLen, fMax2, fMin2, T.toD, T.toDs, T.im, T.ims, D.im, D.ims, List.map_cons, List.map_nil, List.length_cons, List.length_nil, List.cons_append, List.nil_append, List.append_nil, List.replicate_zero, List.replicate_succ, List.getElem?_cons_zero, List.getElem?_cons_succ, List.set_cons_zero, List.set_cons_succ, Nat.reduceAdd, Nat.reduceSub, Nat.reduceLT, Nat.reduceLeDiff, Nat.zero_add, Nat.sub_self, Option.map_some, Option.map_none, if_true, if_false, decide_true, decide_false, Bool.and_true, Bool.true_and, Bool.false_and, Bool.and_false, Bool.not_true, Bool.not_false, reduceIte, reduceCtorEq, szl, Nat.zero_le, List.length_map, dEq, dNe, dIx, dSl, toDs_p, toDs_g, toDs_gi, toDs_gp, List.map_map, Int.reduceLT, Int.reduceLE, Int.reduceAdd, Int.reduceSub, decide_not, dEqB_nn, dEqB_ints0, dEqB_ints, dEqB_int, dEqB_bl, List.map_append, fIsi, D.tyN, Option.bind_some, fSum, fAny, fAll, ints_g, bls_g, D.ints_map, kit_int_int, kit_bool_int, kit_NoneType_int, kit_str_int, kit_list_int, kit_tuple_int, kit_dict_int, kit_int_bool, kit_bool_bool, kit_NoneType_bool, kit_str_bool, kit_list_bool, kit_tuple_bool, kit_dict_bool, kit_int_list, kit_bool_list, kit_NoneType_list, kit_str_list, kit_list_list, kit_tuple_list, kit_dict_list, kit_int_tuple, kit_bool_tuple, kit_NoneType_tuple, kit_str_tuple, kit_list_tuple, kit_tuple_tuple, kit_dict_tuple, kit_int_str, kit_bool_str, kit_NoneType_str, kit_str_str, kit_list_str, kit_tuple_str, kit_dict_str, nc0, nc1, nc2, nc3, nc4, nc5, nc6, nc7, nc8, toDs_c, dEqB_dS0, fMin1, fMax1, toDs_append, hr, hsm, Int.toNat_natCast, rngC]
      rfl
    · rw [List.length_range, szl]; omega
    · intro i hi
      have hi := List.mem_range.mp hi
      have a : 2 * i < s.length := by omega
      have b : 2 * i + 1 < s.length := by omega
      have ea : atI (s.map D.int) ((0 : Int) + (i : Int) * 2) = some (D.int (s.getD (2 * i) 0)) := by
        have := atI_nat (xs := s.map D.int) (i := 2 * i) (by rw [List.length_map]; exact a)
        rw [show (0 : Int) + (i : Int) * 2 = ((2 * i : Nat) : Int) by omega, this, List.getElem_map]
        simp [List.getElem?_eq_getElem a]
      have eb : atI (s.map D.int) ((0 : Int) + (i : Int) * 2 + 1) = some (D.int (s.getD (2 * i + 1) 0)) := by
        have := atI_nat (xs := s.map D.int) (i := 2 * i + 1) (by rw [List.length_map]; exact b)
        rw [show (0 : Int) + (i : Int) * 2 + 1 = ((2 * i + 1 : Nat) : Int) by omega, this, List.getElem_map]
        simp [List.getElem?_eq_getElem b]
      refine ⟨[some (T.p (.lst (xs.map D.int))), some (T.p (.lst (s.map D.int))), some (T.p (.int (0 + (i : Int) * 2)))], ?_, rfl, ?_⟩
      · simp only [mDef, env0, mSeq, mAsg, mAsgF, mAsgT, mB, mV, mC, mRet, mRetV, mIfS, asB, mCall, mCons, mNil, mConsT, mNilT, mL, mTup, mCB, mIf, mNot, mAnd, mOr, mTru, mAndV, mOrV, mNotV, mU, mChI, mO, mSl, mFrz, mBw, mBwB, mNext, frzE, iSeq, iRng1, iRng2, iRng3, iEnumD, iZipD, gN, gT, gC, gNl, mDrop, D.tru, dAdd, dSub, dMul, dMod, dFdiv, dPow, dII, dCmp, dNeg, dIs, dIsNot, D.isN, D.isB, fLen, fMax2, fMin2, T.toD, T.toDs, T.im, T.ims, D.im, D.ims, List.map_cons, List.map_nil, List.length_cons, List.length_nil, List.cons_append, List.nil_append, List.append_nil, List.replicate_zero, List.replicate_succ, List.getElem?_cons_zero, List.getElem?_cons_succ, List.set_cons_zero, List.set_cons_succ, Nat.reduceAdd, Nat.reduceSub, Nat.reduceLT, Nat.reduceLeDiff, Nat.zero_add, Nat.sub_self, Option.map_some, Option.map_none, if_true, if_false, decide_true, decide_false, Bool.and_true, Bool.true_and, Bool.false_and, Bool.and_false, Bool.not_true, Bool.not_false, reduceIte, reduceCtorEq, szl, Nat.zero_le, List.length_map, dEq, dNe, dIx, dSl, toDs_p, toDs_g, toDs_gi, toDs_gp, List.map_map, Int.reduceLT, Int.reduceLE, Int.reduceAdd, Int.reduceSub, decide_not, dEqB_nn, dEqB_ints0, dEqB_ints, dEqB_int, dEqB_bl, List.map_append, fIsi, D.tyN, Option.bind_some, fSum, fAny, fAll, ints_g, bls_g, D.ints_map, kit_int_int, kit_bool_int, kit_NoneType_int, kit_str_int, kit_list_int, kit_tuple_int, kit_dict_int, kit_int_bool, kit_bool_bool, kit_NoneType_bool, kit_str_bool, kit_list_bool, kit_tuple_bool, kit_dict_bool, kit_int_list, kit_bool_list, kit_NoneType_list, kit_str_list, kit_list_list, kit_tuple_list, kit_dict_list, kit_int_tuple, kit_bool_tuple, kit_NoneType_tuple, kit_str_tuple, kit_list_tuple, kit_tuple_tuple, kit_dict_tuple, kit_int_str, kit_bool_str, kit_NoneType_str, kit_str_str, kit_list_str, kit_tuple_str, kit_dict_str, nc0, nc1, nc2, nc3, nc4, nc5, nc6, nc7, nc8, toDs_c, dEqB_dS0, fMin1, fMax1, toDs_append, wipeE]
      · simp only [mDef, env0, mSeq, mAsg, mAsgF, mAsgT, mB, mV, mC, mRet, mRetV, mIfS, asB, mCall, mCons, mNil, mConsT, mNilT, mL, mTup, mCB, mIf, mNot, mAnd, mOr, mTru, mAndV, mOrV, mNotV, mU, mChI, mO, mSl, mFrz, mBw, mBwB, mNext, frzE, iSeq, iRng1, iRng2, iRng3, iEnumD, iZipD, gN, gT, gC, gNl, mDrop, D.tru, dAdd, dSub, dMul, dMod, dFdiv, dPow, dII, dCmp, dNeg, dIs, dIsNot, D.isN, D.isB, fLen, fMax2, fMin2, T.toD, T.toDs, T.im, T.ims, D.im, D.ims, List.map_cons, List.map_nil, List.length_cons, List.length_nil, List.cons_append, List.nil_append, List.append_nil, List.replicate_zero, List.replicate_succ, List.getElem?_cons_zero, List.getElem?_cons_succ, List.set_cons_zero, List.set_cons_succ, Nat.reduceAdd, Nat.reduceSub, Nat.reduceLT, Nat.reduceLeDiff, Nat.zero_add, Nat.sub_self, Option.map_some, Option.map_none, if_true, if_false, decide_true, decide_false, Bool.and_true, Bool.true_and, Bool.false_and, Bool.and_false, Bool.not_true, Bool.not_false, reduceIte, reduceCtorEq, szl, Nat.zero_le, List.length_map, dEq, dNe, dIx, dSl, toDs_p, toDs_g, toDs_gi, toDs_gp, List.map_map, Int.reduceLT, Int.reduceLE, Int.reduceAdd, Int.reduceSub, decide_not, dEqB_nn, dEqB_ints0, dEqB_ints, dEqB_int, dEqB_bl, List.map_append, fIsi, D.tyN, Option.bind_some, fSum, fAny, fAll, ints_g, bls_g, D.ints_map, kit_int_int, kit_bool_int, kit_NoneType_int, kit_str_int, kit_list_int, kit_tuple_int, kit_dict_int, kit_int_bool, kit_bool_bool, kit_NoneType_bool, kit_str_bool, kit_list_bool, kit_tuple_bool, kit_dict_bool, kit_int_list, kit_bool_list, kit_NoneType_list, kit_str_list, kit_list_list, kit_tuple_list, kit_dict_list, kit_int_tuple, kit_bool_tuple, kit_NoneType_tuple, kit_str_tuple, kit_list_tuple, kit_tuple_tuple, kit_dict_tuple, kit_int_str, kit_bool_str, kit_NoneType_str, kit_str_str, kit_list_str, kit_tuple_str, kit_dict_str, nc0, nc1, nc2, nc3, nc4, nc5, nc6, nc7, nc8, toDs_c, dEqB_dS0, fMin1, fMax1, toDs_append, ea, eb]

abbrev gi (i : Int) : T := T.p (D.int i)
def ITwo (ns : List Int) (m : Int) (rest : List (Nat × Int)) (e : Env) : Prop := ∃ (pts ots : List Int) (x4 x5 x6 x7 : Option T), e = [some (.p (.lst (ns.map D.int))), some (.p (.int m)), some (.l (pts.map gi)), some (.l (ots.map gi)), x4, x5, x6, x7] ∧ pts.length + rest.length = ns.length ∧ ots.length + rest.length = ns.length ∧ (∀ x ∈ pts, 0 ≤ x ∧ x ≤ m) ∧ (∀ x ∈ ots, 0 ≤ x ∧ x ≤ m)
abbrev HTwo (f : List D → RE) : Prop := ∀ ns : List Int, ns.length ≤ 63 → ∃ t, (∃ ps qs, Good ps ∧ Good qs ∧ t = .p (.tup [dS ps, dS qs])) ∧ f [.lst (ns.map D.int)] = .ok t
theorem g_two {fnumber fmixed fpieces : List D → RE} (en : HNumber fnumber) (em : HMixed fmixed) (ep : HPieces fpieces) : HTwo (G__law_two fnumber fmixed fpieces) := by
  intro ns hl
  obtain ⟨v, v0, hv⟩ := en ns
  obtain ⟨m, m0, m1, hm⟩ : ∃ m, 1 ≤ m ∧ m ≤ 1000000 ∧ atI [D.int 60, D.int 1000000, D.int 300, D.int 1000000] (v % 4) = some (.int m) := by
    have a := Int.emod_nonneg v (show (4 : Int) ≠ 0 by decide)
    have b := Int.emod_lt_of_pos v (show (0 : Int) < 4 by decide)
    have : v % 4 = 0 ∨ v % 4 = 1 ∨ v % 4 = 2 ∨ v % 4 = 3 := by omega
    rcases this with h | h | h | h <;> rw [h]
    · exact ⟨60, by decide, by decide, rfl⟩
    · exact ⟨1000000, by decide, by decide, rfl⟩
    · exact ⟨300, by decide, by decide, rfl⟩
    · exact ⟨1000000, by decide, by decide, rfl⟩
  unfold G__law_two
  apply okR_def
  refine okR_step (e1 := [some (.p (.lst (ns.map D.int))), some (.p (.int m)), none, none, none, none, none, none]) (by simp only [mDef, env0, mSeq, mAsg, mAsgF, mAsgT, mB, mV, mC, mRet, mRetV, mIfS, asB, mCall, mCons, mNil, mConsT, mNilT, mL, mTup, mCB, mIf, mNot, mAnd, mOr, mTru, mAndV, mOrV, mNotV, mU, mChI, mO, mSl, mFrz, mBw, mBwB, mNext, frzE, iSeq, iRng1, iRng2, iRng3, iEnumD, iZipD, gN, gT, gC, gNl, mDrop, D.tru, dAdd, dSub, dMul, dMod, dFdiv, dPow, dII, dCmp, dNeg, dIs, dIsNot, D.isN, D.isB, fLen, fMax2, fMin2, T.toD, T.toDs, T.im, T.ims, D.im, D.ims, List.map_cons, List.map_nil, List.length_cons, List.length_nil, List.cons_append, List.nil_append, List.append_nil, List.replicate_zero, List.replicate_succ, List.getElem?_cons_zero, List.getElem?_cons_succ, List.set_cons_zero, List.set_cons_succ, Nat.reduceAdd, Nat.reduceSub, Nat.reduceLT, Nat.reduceLeDiff, Nat.zero_add, Nat.sub_self, Option.map_some, Option.map_none, if_true, if_false, decide_true, decide_false, Bool.and_true, Bool.true_and, Bool.false_and, Bool.and_false, Bool.not_true, Bool.not_false, reduceIte, reduceCtorEq, szl, Nat.zero_le, List.length_map, dEq, dNe, dIx, dSl, toDs_p, toDs_g, toDs_gi, toDs_gp, List.map_map, Int.reduceLT, Int.reduceLE, Int.reduceAdd, Int.reduceSub, decide_not, dEqB_nn, dEqB_ints0, dEqB_ints, dEqB_int, dEqB_bl, List.map_append, fIsi, D.tyN, Option.bind_some, fSum, fAny, fAll, ints_g, bls_g, D.ints_map, kit_int_int, kit_bool_int, kit_NoneType_int, kit_str_int, kit_list_int, kit_tuple_int, kit_dict_int, kit_int_bool, kit_bool_bool, kit_NoneType_bool, kit_str_bool, kit_list_bool, kit_tuple_bool, kit_dict_bool, kit_int_list, kit_bool_list, kit_NoneType_list, kit_str_list, kit_list_list, kit_tuple_list, kit_dict_list, kit_int_tuple, kit_bool_tuple, kit_NoneType_tuple, kit_str_tuple, kit_list_tuple, kit_tuple_tuple, kit_dict_tuple, kit_int_str, kit_bool_str, kit_NoneType_str, kit_str_str, kit_list_str, kit_tuple_str, kit_dict_str, nc0, nc1, nc2, nc3, nc4, nc5, nc6, nc7, nc8, toDs_c, dEqB_dS0, fMin1, fMax1, toDs_append, hv, hm]) ?_
  refine okR_step (e1 := [some (.p (.lst (ns.map D.int))), some (.p (.int m)), some (.l []), none, none, none, none, none]) (by simp only [mDef, env0, mSeq, mAsg, mAsgF, mAsgT, mB, mV, mC, mRet, mRetV, mIfS, asB, mCall, mCons, mNil, mConsT, mNilT, mL, mTup, mCB, mIf, mNot, mAnd, mOr, mTru, mAndV, mOrV, mNotV, mU, mChI, mO, mSl, mFrz, mBw, mBwB, mNext, frzE, iSeq, iRng1, iRng2, iRng3, iEnumD, iZipD, gN, gT, gC, gNl, mDrop, D.tru, dAdd, dSub, dMul, dMod, dFdiv, dPow, dII, dCmp, dNeg, dIs, dIsNot, D.isN, D.isB, fLen, fMax2, fMin2, T.toD, T.toDs, T.im, T.ims, D.im, D.ims, List.map_cons, List.map_nil, List.length_cons, List.length_nil, List.cons_append, List.nil_append, List.append_nil, List.replicate_zero, List.replicate_succ, List.getElem?_cons_zero, List.getElem?_cons_succ, List.set_cons_zero, List.set_cons_succ, Nat.reduceAdd, Nat.reduceSub, Nat.reduceLT, Nat.reduceLeDiff, Nat.zero_add, Nat.sub_self, Option.map_some, Option.map_none, if_true, if_false, decide_true, decide_false, Bool.and_true, Bool.true_and, Bool.false_and, Bool.and_false, Bool.not_true, Bool.not_false, reduceIte, reduceCtorEq, szl, Nat.zero_le, List.length_map, dEq, dNe, dIx, dSl, toDs_p, toDs_g, toDs_gi, toDs_gp, List.map_map, Int.reduceLT, Int.reduceLE, Int.reduceAdd, Int.reduceSub, decide_not, dEqB_nn, dEqB_ints0, dEqB_ints, dEqB_int, dEqB_bl, List.map_append, fIsi, D.tyN, Option.bind_some, fSum, fAny, fAll, ints_g, bls_g, D.ints_map, kit_int_int, kit_bool_int, kit_NoneType_int, kit_str_int, kit_list_int, kit_tuple_int, kit_dict_int, kit_int_bool, kit_bool_bool, kit_NoneType_bool, kit_str_bool, kit_list_bool, kit_tuple_bool, kit_dict_bool, kit_int_list, kit_bool_list, kit_NoneType_list, kit_str_list, kit_list_list, kit_tuple_list, kit_dict_list, kit_int_tuple, kit_bool_tuple, kit_NoneType_tuple, kit_str_tuple, kit_list_tuple, kit_tuple_tuple, kit_dict_tuple, kit_int_str, kit_bool_str, kit_NoneType_str, kit_str_str, kit_list_str, kit_tuple_str, kit_dict_str, nc0, nc1, nc2, nc3, nc4, nc5, nc6, nc7, nc8, toDs_c, dEqB_dS0, fMin1, fMax1, toDs_append]) ?_
  refine okR_step (e1 := [some (.p (.lst (ns.map D.int))), some (.p (.int m)), some (.l []), some (.l []), none, none, none, none]) (by simp only [mDef, env0, mSeq, mAsg, mAsgF, mAsgT, mB, mV, mC, mRet, mRetV, mIfS, asB, mCall, mCons, mNil, mConsT, mNilT, mL, mTup, mCB, mIf, mNot, mAnd, mOr, mTru, mAndV, mOrV, mNotV, mU, mChI, mO, mSl, mFrz, mBw, mBwB, mNext, frzE, iSeq, iRng1, iRng2, iRng3, iEnumD, iZipD, gN, gT, gC, gNl, mDrop, D.tru, dAdd, dSub, dMul, dMod, dFdiv, dPow, dII, dCmp, dNeg, dIs, dIsNot, D.isN, D.isB, fLen, fMax2, fMin2, T.toD, T.toDs, T.im, T.ims, D.im, D.ims, List.map_cons, List.map_nil, List.length_cons, List.length_nil, List.cons_append, List.nil_append, List.append_nil, List.replicate_zero, List.replicate_succ, List.getElem?_cons_zero, List.getElem?_cons_succ, List.set_cons_zero, List.set_cons_succ, Nat.reduceAdd, Nat.reduceSub, Nat.reduceLT, Nat.reduceLeDiff, Nat.zero_add, Nat.sub_self, Option.map_some, Option.map_none, if_true, if_false, decide_true, decide_false, Bool.and_true, Bool.true_and, Bool.false_and, Bool.and_false, Bool.not_true, Bool.not_false, reduceIte, reduceCtorEq, szl, Nat.zero_le, List.length_map, dEq, dNe, dIx, dSl, toDs_p, toDs_g, toDs_gi, toDs_gp, List.map_map, Int.reduceLT, Int.reduceLE, Int.reduceAdd, Int.reduceSub, decide_not, dEqB_nn, dEqB_ints0, dEqB_ints, dEqB_int, dEqB_bl, List.map_append, fIsi, D.tyN, Option.bind_some, fSum, fAny, fAll, ints_g, bls_g, D.ints_map, kit_int_int, kit_bool_int, kit_NoneType_int, kit_str_int, kit_list_int, kit_tuple_int, kit_dict_int, kit_int_bool, kit_bool_bool, kit_NoneType_bool, kit_str_bool, kit_list_bool, kit_tuple_bool, kit_dict_bool, kit_int_list, kit_bool_list, kit_NoneType_list, kit_str_list, kit_list_list, kit_tuple_list, kit_dict_list, kit_int_tuple, kit_bool_tuple, kit_NoneType_tuple, kit_str_tuple, kit_list_tuple, kit_tuple_tuple, kit_dict_tuple, kit_int_str, kit_bool_str, kit_NoneType_str, kit_str_str, kit_list_str, kit_tuple_str, kit_dict_str, nc0, nc1, nc2, nc3, nc4, nc5, nc6, nc7, nc8, toDs_c, dEqB_dS0, fMin1, fMax1, toDs_append]) ?_
  refine okR_for ((List.range ns.length).zip ns) dE (ITwo ns m) ?_ ?_ ?_ ?_
  · simp only [mDef, env0, mSeq, mAsg, mAsgF, mAsgT, mB, mV, mC, mRet, mRetV, mIfS, asB, mCall, mCons, mNil, mConsT, mNilT, mL, mTup, mCB, mIf, mNot, mAnd, mOr, mTru, mAndV, mOrV, mNotV, mU, mChI, mO, mSl, mFrz, mBw, mBwB, mNext, frzE, iSeq, iRng1, iRng2, iRng3, iEnumD, iZipD, gN, gT, gC, gNl, mDrop, D.tru, dAdd, dSub, dMul, dMod, dFdiv, dPow, dII, dCmp, dNeg, dIs, dIsNot, D.isN, D.isB, fLen, fMax2, fMin2, T.toD, T.toDs, T.im, T.ims, D.im, D.ims, List.map_cons, List.map_nil, List.length_cons, List.length_nil, List.cons_append, List.nil_append, List.append_nil, List.replicate_zero, List.replicate_succ, List.getElem?_cons_zero, List.getElem?_cons_succ, List.set_cons_zero, List.set_cons_succ, Nat.reduceAdd, Nat.reduceSub, Nat.reduceLT, Nat.reduceLeDiff, Nat.zero_add, Nat.sub_self, Option.map_some, Option.map_none, if_true, if_false, decide_true, decide_false, Bool.and_true, Bool.true_and, Bool.false_and, Bool.and_false, Bool.not_true, Bool.not_false, reduceIte, reduceCtorEq, szl, Nat.zero_le, List.length_map, dEq, dNe, dIx, dSl, toDs_p, toDs_g, toDs_gi, toDs_gp, List.map_map, Int.reduceLT, Int.reduceLE, Int.reduceAdd, Int.reduceSub, decide_not, dEqB_nn, dEqB_ints0, dEqB_ints, dEqB_int, dEqB_bl, List.map_append, fIsi, D.tyN, Option.bind_some, fSum, fAny, fAll, ints_g, bls_g, D.ints_map, kit_int_int, kit_bool_int, kit_NoneType_int, kit_str_int, kit_list_int, kit_tuple_int, kit_dict_int, kit_int_bool, kit_bool_bool, kit_NoneType_bool, kit_str_bool, kit_list_bool, kit_tuple_bool, kit_dict_bool, kit_int_list, kit_bool_list, kit_NoneType_list, kit_str_list, kit_list_list, kit_tuple_list, kit_dict_list, kit_int_tuple, kit_bool_tuple, kit_NoneType_tuple, kit_str_tuple, kit_list_tuple, kit_tuple_tuple, kit_dict_tuple, kit_int_str, kit_bool_str, kit_NoneType_str, kit_str_str, kit_list_str, kit_tuple_str, kit_dict_str, nc0, nc1, nc2, nc3, nc4, nc5, nc6, nc7, nc8, toDs_c, dEqB_dS0, fMin1, fMax1, toDs_append, cut_to' _ 63 (by decide)]
    rw [show (63 : Int).toNat = 63 from rfl, List.take_of_length_le (by rw [List.length_map]; exact hl), enumD_ints]
  · exact ⟨[], [], none, none, none, none, rfl, by simp, by simp, by simp, by simp⟩
  · rintro ⟨k, c⟩ ys e hx ⟨pts, ots, x4, x5, x6, x7, rfl, hp, ho, bp, bo⟩
    have hk := (mem_enum hx).1
    simp only at hk
    rw [List.length_cons] at hp ho
    obtain ⟨u, u0, hu⟩ := em c k (by omega) (by omega)
    have um0 := Int.emod_nonneg u (show m + 1 ≠ 0 by omega)
    have um1 := Int.emod_lt_of_pos u (show 0 < m + 1 by omega)
    have un0 := Int.emod_nonneg (u / 3) (show m + 1 ≠ 0 by omega)
    have un1 := Int.emod_lt_of_pos (u / 3) (show 0 < m + 1 by omega)
    have hm1 : 0 < m + 1 := by omega
    have hpl : pts.length < 16777216 := by omega
    have hol : ots.length < 16777216 := by omega
    obtain ⟨q, hq, hq2⟩ := atI_mod (xs := (pts ++ [u % (m + 1)]).map D.int) (by simp) (u / 7)
    obtain ⟨y, _, rfl⟩ := List.mem_map.mp hq
    rw [List.length_map] at hq2
    have hpos : (0 : Int) < (pts ++ [u % (m + 1)]).length := by rw [List.length_append]; simp
    obtain ⟨z, z0, z1, hz⟩ : ∃ z, 0 ≤ z ∧ z ≤ m ∧ atI [D.int (u / 3 % (m + 1)), D.int (if (if y + u / 99 % 3 - 1 < m then y + u / 99 % 3 - 1 else m) > 0 then (if y + u / 99 % 3 - 1 < m then y + u / 99 % 3 - 1 else m) else 0)] (u / 5 % 2) = some (.int z) := by
      have : u / 5 % 2 = 0 ∨ u / 5 % 2 = 1 := by omega
      rcases this with h | h <;> rw [h]
      · exact ⟨_, un0, by omega, rfl⟩
      · refine ⟨_, ?_, ?_, rfl⟩
        · split <;> omega
        · split
          · split <;> omega
          · omega
    refine ⟨[some (.p (.lst (ns.map D.int))), some (.p (.int m)), some (.l (pts.map gi)), some (.l (ots.map gi)), some (.p (.int k)), some (.p (.int c)), x6, x7], [some (.p (.lst (ns.map D.int))), some (.p (.int m)), some (.l ((pts ++ [u % (m + 1)]).map gi)), some (.l ((ots ++ [z]).map gi)), some (.p (.int k)), some (.p (.int c)), some (.p (.int u)), some (.p (.int (y + u / 99 % 3 - 1)))], ?_, ?_, ?_⟩
    · simp only [mDef, env0, mSeq, mAsg, mAsgF, mAsgT, mB, mV, mC, mRet, mRetV, mIfS, asB, mCall, mCons, mNil, mConsT, mNilT, mL, mTup, mCB, mIf, mNot, mAnd, mOr, mTru, mAndV, mOrV, mNotV, mU, mChI, mO, mSl, mFrz, mBw, mBwB, mNext, frzE, iSeq, iRng1, iRng2, iRng3, iEnumD, iZipD, gN, gT, gC, gNl, mDrop, D.tru, dAdd, dSub, dMul, dMod, dFdiv, dPow, dII, dCmp, dNeg, dIs, dIsNot, D.isN, D.isB, fLen, fMax2, fMin2, T.toD, T.toDs, T.im, T.ims, D.im, D.ims, List.map_cons, List.map_nil, List.length_cons, List.length_nil, List.cons_append, List.nil_append, List.append_nil, List.replicate_zero, List.replicate_succ, List.getElem?_cons_zero, List.getElem?_cons_succ, List.set_cons_zero, List.set_cons_succ, Nat.reduceAdd, Nat.reduceSub, Nat.reduceLT, Nat.reduceLeDiff, Nat.zero_add, Nat.sub_self, Option.map_some, Option.map_none, if_true, if_false, decide_true, decide_false, Bool.and_true, Bool.true_and, Bool.false_and, Bool.and_false, Bool.not_true, Bool.not_false, reduceIte, reduceCtorEq, szl, Nat.zero_le, List.length_map, dEq, dNe, dIx, dSl, toDs_p, toDs_g, toDs_gi, toDs_gp, List.map_map, Int.reduceLT, Int.reduceLE, Int.reduceAdd, Int.reduceSub, decide_not, dEqB_nn, dEqB_ints0, dEqB_ints, dEqB_int, dEqB_bl, List.map_append, fIsi, D.tyN, Option.bind_some, fSum, fAny, fAll, ints_g, bls_g, D.ints_map, kit_int_int, kit_bool_int, kit_NoneType_int, kit_str_int, kit_list_int, kit_tuple_int, kit_dict_int, kit_int_bool, kit_bool_bool, kit_NoneType_bool, kit_str_bool, kit_list_bool, kit_tuple_bool, kit_dict_bool, kit_int_list, kit_bool_list, kit_NoneType_list, kit_str_list, kit_list_list, kit_tuple_list, kit_dict_list, kit_int_tuple, kit_bool_tuple, kit_NoneType_tuple, kit_str_tuple, kit_list_tuple, kit_tuple_tuple, kit_dict_tuple, kit_int_str, kit_bool_str, kit_NoneType_str, kit_str_str, kit_list_str, kit_tuple_str, kit_dict_str, nc0, nc1, nc2, nc3, nc4, nc5, nc6, nc7, nc8, toDs_c, dEqB_dS0, fMin1, fMax1, toDs_append]
    · refine mSeq_step (e1 := [some (.p (.lst (ns.map D.int))), some (.p (.int m)), some (.l (pts.map gi)), some (.l (ots.map gi)), some (.p (.int k)), some (.p (.int c)), some (.p (.int u)), x7]) (by simp only [mDef, env0, mSeq, mAsg, mAsgF, mAsgT, mB, mV, mC, mRet, mRetV, mIfS, asB, mCall, mCons, mNil, mConsT, mNilT, mL, mTup, mCB, mIf, mNot, mAnd, mOr, mTru, mAndV, mOrV, mNotV, mU, mChI, mO, mSl, mFrz, mBw, mBwB, mNext, frzE, iSeq, iRng1, iRng2, iRng3, iEnumD, iZipD, gN, gT, gC, gNl, mDrop, D.tru, dAdd, dSub, dMul, dMod, dFdiv, dPow, dII, dCmp, dNeg, dIs, dIsNot, D.isN, D.isB, fLen, fMax2, fMin2, T.toD, T.toDs, T.im, T.ims, D.im, D.ims, List.map_cons, List.map_nil, List.length_cons, List.length_nil, List.cons_append, List.nil_append, List.append_nil, List.replicate_zero, List.replicate_succ, List.getElem?_cons_zero, List.getElem?_cons_succ, List.set_cons_zero, List.set_cons_succ, Nat.reduceAdd, Nat.reduceSub, Nat.reduceLT, Nat.reduceLeDiff, Nat.zero_add, Nat.sub_self, Option.map_some, Option.map_none, if_true, if_false, decide_true, decide_false, Bool.and_true, Bool.true_and, Bool.false_and, Bool.and_false, Bool.not_true, Bool.not_false, reduceIte, reduceCtorEq, szl, Nat.zero_le, List.length_map, dEq, dNe, dIx, dSl, toDs_p, toDs_g, toDs_gi, toDs_gp, List.map_map, Int.reduceLT, Int.reduceLE, Int.reduceAdd, Int.reduceSub, decide_not, dEqB_nn, dEqB_ints0, dEqB_ints, dEqB_int, dEqB_bl, List.map_append, fIsi, D.tyN, Option.bind_some, fSum, fAny, fAll, ints_g, bls_g, D.ints_map, kit_int_int, kit_bool_int, kit_NoneType_int, kit_str_int, kit_list_int, kit_tuple_int, kit_dict_int, kit_int_bool, kit_bool_bool, kit_NoneType_bool, kit_str_bool, kit_list_bool, kit_tuple_bool, kit_dict_bool, kit_int_list, kit_bool_list, kit_NoneType_list, kit_str_list, kit_list_list, kit_tuple_list, kit_dict_list, kit_int_tuple, kit_bool_tuple, kit_NoneType_tuple, kit_str_tuple, kit_list_tuple, kit_tuple_tuple, kit_dict_tuple, kit_int_str, kit_bool_str, kit_NoneType_str, kit_str_str, kit_list_str, kit_tuple_str, kit_dict_str, nc0, nc1, nc2, nc3, nc4, nc5, nc6, nc7, nc8, toDs_c, dEqB_dS0, fMin1, fMax1, toDs_append, hu]) ?_
      refine mSeq_step (e1 := [some (.p (.lst (ns.map D.int))), some (.p (.int m)), some (.l ((pts ++ [u % (m + 1)]).map gi)), some (.l (ots.map gi)), some (.p (.int k)), some (.p (.int c)), some (.p (.int u)), x7]) (by simp only [mDef, env0, mSeq, mAsg, mAsgF, mAsgT, mB, mV, mC, mRet, mRetV, mIfS, asB, mCall, mCons, mNil, mConsT, mNilT, mL, mTup, mCB, mIf, mNot, mAnd, mOr, mTru, mAndV, mOrV, mNotV, mU, mChI, mO, mSl, mFrz, mBw, mBwB, mNext, frzE, iSeq, iRng1, iRng2, iRng3, iEnumD, iZipD, gN, gT, gC, gNl, mDrop, D.tru, dAdd, dSub, dMul, dMod, dFdiv, dPow, dII, dCmp, dNeg, dIs, dIsNot, D.isN, D.isB, fLen, fMax2, fMin2, T.toD, T.toDs, T.im, T.ims, D.im, D.ims, List.map_cons, List.map_nil, List.length_cons, List.length_nil, List.cons_append, List.nil_append, List.append_nil, List.replicate_zero, List.replicate_succ, List.getElem?_cons_zero, List.getElem?_cons_succ, List.set_cons_zero, List.set_cons_succ, Nat.reduceAdd, Nat.reduceSub, Nat.reduceLT, Nat.reduceLeDiff, Nat.zero_add, Nat.sub_self, Option.map_some, Option.map_none, if_true, if_false, decide_true, decide_false, Bool.and_true, Bool.true_and, Bool.false_and, Bool.and_false, Bool.not_true, Bool.not_false, reduceIte, reduceCtorEq, szl, Nat.zero_le, List.length_map, dEq, dNe, dIx, dSl, toDs_p, toDs_g, toDs_gi, toDs_gp, List.map_map, Int.reduceLT, Int.reduceLE, Int.reduceAdd, Int.reduceSub, decide_not, dEqB_nn, dEqB_ints0, dEqB_ints, dEqB_int, dEqB_bl, List.map_append, fIsi, D.tyN, Option.bind_some, fSum, fAny, fAll, ints_g, bls_g, D.ints_map, kit_int_int, kit_bool_int, kit_NoneType_int, kit_str_int, kit_list_int, kit_tuple_int, kit_dict_int, kit_int_bool, kit_bool_bool, kit_NoneType_bool, kit_str_bool, kit_list_bool, kit_tuple_bool, kit_dict_bool, kit_int_list, kit_bool_list, kit_NoneType_list, kit_str_list, kit_list_list, kit_tuple_list, kit_dict_list, kit_int_tuple, kit_bool_tuple, kit_NoneType_tuple, kit_str_tuple, kit_list_tuple, kit_tuple_tuple, kit_dict_tuple, kit_int_str, kit_bool_str, kit_NoneType_str, kit_str_str, kit_list_str, kit_tuple_str, kit_dict_str, nc0, nc1, nc2, nc3, nc4, nc5, nc6, nc7, nc8, toDs_c, dEqB_dS0, fMin1, fMax1, toDs_append, mApp, hm1, hpl]) ?_
      refine mSeq_step (e1 := [some (.p (.lst (ns.map D.int))), some (.p (.int m)), some (.l ((pts ++ [u % (m + 1)]).map gi)), some (.l (ots.map gi)), some (.p (.int k)), some (.p (.int c)), some (.p (.int u)), some (.p (.int (y + u / 99 % 3 - 1)))]) ?_ ?_
      · generalize hgp : pts ++ [u % (m + 1)] = pp at *
        simp only [mDef, env0, mSeq, mAsg, mAsgF, mAsgT, mB, mV, mC, mRet, mRetV, mIfS, asB, mCall, mCons, mNil, mConsT, mNilT, mL, mTup, mCB, mIf, mNot, mAnd, mOr, mTru, mAndV, mOrV, mNotV, mU, mChI, mO, mSl, mFrz, mBw, mBwB, mNext, frzE, iSeq, iRng1, iRng2, iRng3, iEnumD, iZipD, gN, gT, gC, gNl, mDrop, D.tru, dAdd, dSub, dMul, dMod, dFdiv, dPow, dII, dCmp, dNeg, dIs, dIsNot, D.isN, D.isB, fLen, fMax2, fMin2, T.toD, T.toDs, T.im, T.ims, D.im, D.ims, List.map_cons, List.map_nil, List.length_cons, List.length_nil, List.cons_append, List.nil_append, List.append_nil, List.replicate_zero, List.replicate_succ, List.getElem?_cons_zero, List.getElem?_cons_succ, List.set_cons_zero, List.set_cons_succ, Nat.reduceAdd, Nat.reduceSub, Nat.reduceLT, Nat.reduceLeDiff, Nat.zero_add, Nat.sub_self, Option.map_some, Option.map_none, if_true, if_false, decide_true, decide_false, Bool.and_true, Bool.true_and, Bool.false_and, Bool.and_false, Bool.not_true, Bool.not_false, reduceIte, reduceCtorEq, szl, Nat.zero_le, List.length_map, dEq, dNe, dIx, dSl, toDs_p, toDs_g, toDs_gi, toDs_gp, List.map_map, Int.reduceLT, Int.reduceLE, Int.reduceAdd, Int.reduceSub, decide_not, dEqB_nn, dEqB_ints0, dEqB_ints, dEqB_int, dEqB_bl, List.map_append, fIsi, D.tyN, Option.bind_some, fSum, fAny, fAll, ints_g, bls_g, D.ints_map, kit_int_int, kit_bool_int, kit_NoneType_int, kit_str_int, kit_list_int, kit_tuple_int, kit_dict_int, kit_int_bool, kit_bool_bool, kit_NoneType_bool, kit_str_bool, kit_list_bool, kit_tuple_bool, kit_dict_bool, kit_int_list, kit_bool_list, kit_NoneType_list, kit_str_list, kit_list_list, kit_tuple_list, kit_dict_list, kit_int_tuple, kit_bool_tuple, kit_NoneType_tuple, kit_str_tuple, kit_list_tuple, kit_tuple_tuple, kit_dict_tuple, kit_int_str, kit_bool_str, kit_NoneType_str, kit_str_str, kit_list_str, kit_tuple_str, kit_dict_str, nc0, nc1, nc2, nc3, nc4, nc5, nc6, nc7, nc8, toDs_c, dEqB_dS0, fMin1, fMax1, toDs_append, hpos, hq2]
      · simp only [mDef, env0, mSeq, mAsg, mAsgF, mAsgT, mB, mV, mC, mRet, mRetV, mIfS, asB, mCall, mCons, mNil, mConsT, mNilT, mL, mTup, mCB, mIf, mNot, mAnd, mOr, mTru, mAndV, mOrV, mNotV, mU, mChI, mO, mSl, mFrz, mBw, mBwB, mNext, frzE, iSeq, iRng1, iRng2, iRng3, iEnumD, iZipD, gN, gT, gC, gNl, mDrop, D.tru, dAdd, dSub, dMul, dMod, dFdiv, dPow, dII, dCmp, dNeg, dIs, dIsNot, D.isN, D.isB, fLen, fMax2, fMin2, T.toD, T.toDs, T.im, T.ims, D.im, D.ims, List.map_cons, List.map_nil, List.length_cons, List.length_nil, List.cons_append, List.nil_append, List.append_nil, List.replicate_zero, List.replicate_succ, List.getElem?_cons_zero, List.getElem?_cons_succ, List.set_cons_zero, List.set_cons_succ, Nat.reduceAdd, Nat.reduceSub, Nat.reduceLT, Nat.reduceLeDiff, Nat.zero_add, Nat.sub_self, Option.map_some, Option.map_none, if_true, if_false, decide_true, decide_false, Bool.and_true, Bool.true_and, Bool.false_and, Bool.and_false, Bool.not_true, Bool.not_false, reduceIte, reduceCtorEq, szl, Nat.zero_le, List.length_map, dEq, dNe, dIx, dSl, toDs_p, toDs_g, toDs_gi, toDs_gp, List.map_map, Int.reduceLT, Int.reduceLE, Int.reduceAdd, Int.reduceSub, decide_not, dEqB_nn, dEqB_ints0, dEqB_ints, dEqB_int, dEqB_bl, List.map_append, fIsi, D.tyN, Option.bind_some, fSum, fAny, fAll, ints_g, bls_g, D.ints_map, kit_int_int, kit_bool_int, kit_NoneType_int, kit_str_int, kit_list_int, kit_tuple_int, kit_dict_int, kit_int_bool, kit_bool_bool, kit_NoneType_bool, kit_str_bool, kit_list_bool, kit_tuple_bool, kit_dict_bool, kit_int_list, kit_bool_list, kit_NoneType_list, kit_str_list, kit_list_list, kit_tuple_list, kit_dict_list, kit_int_tuple, kit_bool_tuple, kit_NoneType_tuple, kit_str_tuple, kit_list_tuple, kit_tuple_tuple, kit_dict_tuple, kit_int_str, kit_bool_str, kit_NoneType_str, kit_str_str, kit_list_str, kit_tuple_str, kit_dict_str, nc0, nc1, nc2, nc3, nc4, nc5, nc6, nc7, nc8, toDs_c, dEqB_dS0, fMin1, fMax1, toDs_append, mApp, hol, hm1, hz]
    · exact ⟨pts ++ [u % (m + 1)], ots ++ [z], _, _, _, _, rfl, by simp; omega, by simp; omega, by
        intro x hx
        rcases List.mem_append.mp hx with h | h
        · exact bp x h
        · rw [List.mem_singleton.mp h]; exact ⟨um0, by omega⟩, by
        intro x hx
        rcases List.mem_append.mp hx with h | h
        · exact bo x h
        · rw [List.mem_singleton.mp h]; exact ⟨z0, z1⟩⟩
  · rintro e' ⟨pts, ots, x4, x5, x6, x7, rfl, hp, ho, bp, bo⟩
    rw [List.length_nil] at hp ho
    obtain ⟨ps, g1, h1⟩ := ep pts (by omega) fun x hx => by have := bp x hx; omega
    obtain ⟨qs, g2, h2⟩ := ep ots (by omega) fun x hx => by have := bo x hx; omega
    refine okR_rt (t := .p (.tup [dS ps, dS qs])) ⟨ps, qs, g1, g2, rfl⟩ ?_
    simp only [mDef, env0, mSeq, mAsg, mAsgF, mAsgT, mB, mV, mC, mRet, mRetV, mIfS, asB, mCall, mCons, mNil, mConsT, mNilT, mL, mTup, mCB, mIf, mNot, mAnd, mOr, mTru, mAndV, mOrV, mNotV, mU, mChI, mO, mSl, mFrz, mBw, mBwB, mNext, frzE, iSeq, iRng1, iRng2, iRng3, iEnumD, iZipD, gN, gT, gC, gNl, mDrop, D.tru, dAdd, dSub, dMul, dMod, dFdiv, dPow, dII, dCmp, dNeg, dIs, dIsNot, D.isN, D.isB, fLen, fMax2, fMin2, T.toD, T.toDs, T.im, T.ims, D.im, D.ims, List.map_cons, List.map_nil, List.length_cons, List.length_nil, List.cons_append, List.nil_append, List.append_nil, List.replicate_zero, List.replicate_succ, List.getElem?_cons_zero, List.getElem?_cons_succ, List.set_cons_zero, List.set_cons_succ, Nat.reduceAdd, Nat.reduceSub, Nat.reduceLT, Nat.reduceLeDiff, Nat.zero_add, Nat.sub_self, Option.map_some, Option.map_none, if_true, if_false, decide_true, decide_false, Bool.and_true, Bool.true_and, Bool.false_and, Bool.and_false, Bool.not_true, Bool.not_false, reduceIte, reduceCtorEq, szl, Nat.zero_le, List.length_map, dEq, dNe, dIx, dSl, toDs_p, toDs_g, toDs_gi, toDs_gp, List.map_map, Int.reduceLT, Int.reduceLE, Int.reduceAdd, Int.reduceSub, decide_not, dEqB_nn, dEqB_ints0, dEqB_ints, dEqB_int, dEqB_bl, List.map_append, fIsi, D.tyN, Option.bind_some, fSum, fAny, fAll, ints_g, bls_g, D.ints_map, kit_int_int, kit_bool_int, kit_NoneType_int, kit_str_int, kit_list_int, kit_tuple_int, kit_dict_int, kit_int_bool, kit_bool_bool, kit_NoneType_bool, kit_str_bool, kit_list_bool, kit_tuple_bool, kit_dict_bool, kit_int_list, kit_bool_list, kit_NoneType_list, kit_str_list, kit_list_list, kit_tuple_list, kit_dict_list, kit_int_tuple, kit_bool_tuple, kit_NoneType_tuple, kit_str_tuple, kit_list_tuple, kit_tuple_tuple, kit_dict_tuple, kit_int_str, kit_bool_str, kit_NoneType_str, kit_str_str, kit_list_str, kit_tuple_str, kit_dict_str, nc0, nc1, nc2, nc3, nc4, nc5, nc6, nc7, nc8, toDs_c, dEqB_dS0, fMin1, fMax1, toDs_append, h1, h2]


theorem g_is_whole (i : Int) : G_is_whole [.int i] = .ok (.p (.bl true)) := by
  unfold G_is_whole
  simp only [mDef, env0, mSeq, mAsg, mAsgF, mAsgT, mB, mV, mC, mRet, mRetV, mIfS, asB, mCall, mCons, mNil, mConsT, mNilT, mL, mTup, mCB, mIf, mNot, mAnd, mOr, mTru, mAndV, mOrV, mNotV, mU, mChI, mO, mSl, mFrz, mBw, mBwB, mNext, frzE, iSeq, iRng1, iRng2, iRng3, iEnumD, iZipD, gN, gT, gC, gNl, mDrop, D.tru, dAdd, dSub, dMul, dMod, dFdiv, dPow, dII, dCmp, dNeg, dIs, dIsNot, D.isN, D.isB, fLen, fMax2, fMin2, T.toD, T.toDs, T.im, T.ims, D.im, D.ims, List.map_cons, List.map_nil, List.length_cons, List.length_nil, List.cons_append, List.nil_append, List.append_nil, List.replicate_zero, List.replicate_succ, List.getElem?_cons_zero, List.getElem?_cons_succ, List.set_cons_zero, List.set_cons_succ, Nat.reduceAdd, Nat.reduceSub, Nat.reduceLT, Nat.reduceLeDiff, Nat.zero_add, Nat.sub_self, Option.map_some, Option.map_none, if_true, if_false, decide_true, decide_false, Bool.and_true, Bool.true_and, Bool.false_and, Bool.and_false, Bool.not_true, Bool.not_false, reduceIte, reduceCtorEq, szl, Nat.zero_le, List.length_map, dEq, dNe, dIx, dSl, toDs_p, toDs_g, toDs_gi, toDs_gp, List.map_map, Int.reduceLT, Int.reduceLE, Int.reduceAdd, Int.reduceSub, decide_not, dEqB_nn, dEqB_ints0, dEqB_ints, dEqB_int, dEqB_bl, List.map_append, fIsi, D.tyN, Option.bind_some, fSum, fAny, fAll, ints_g, bls_g, D.ints_map, kit_int_int, kit_bool_int, kit_NoneType_int, kit_str_int, kit_list_int, kit_tuple_int, kit_dict_int, kit_int_bool, kit_bool_bool, kit_NoneType_bool, kit_str_bool, kit_list_bool, kit_tuple_bool, kit_dict_bool, kit_int_list, kit_bool_list, kit_NoneType_list, kit_str_list, kit_list_list, kit_tuple_list, kit_dict_list, kit_int_tuple, kit_bool_tuple, kit_NoneType_tuple, kit_str_tuple, kit_list_tuple, kit_tuple_tuple, kit_dict_tuple, kit_int_str, kit_bool_str, kit_NoneType_str, kit_str_str, kit_list_str, kit_tuple_str, kit_dict_str, nc0, nc1, nc2, nc3, nc4, nc5, nc6, nc7, nc8, toDs_c, dEqB_dS0, fMin1, fMax1, toDs_append]
abbrev HWholeI (f : List D → RE) : Prop := ∀ i : Int, f [.int i] = .ok (.p (.bl true))
abbrev HAmong (f : List D → RE) : Prop := ∀ i l m : Int, f [.int i, .int l, .int m] = .ok (.p (.bl (decide (l ≤ i) && decide (i ≤ m))))
theorem g_is_among {f : List D → RE} (h : HWholeI f) : HAmong (G_is_among f) := by
  intro i l m
  unfold G_is_among
  by_cases q : l ≤ i
  · simp only [mDef, env0, mSeq, mAsg, mAsgF, mAsgT, mB, mV, mC, mRet, mRetV, mIfS, asB, mCall, mCons, mNil, mConsT, mNilT, mL, mTup, mCB, mIf, mNot, mAnd, mOr, mTru, mAndV, mOrV, mNotV, mU, mChI, mO, mSl, mFrz, mBw, mBwB, mNext, frzE, iSeq, iRng1, iRng2, iRng3, iEnumD, iZipD, gN, gT, gC, gNl, mDrop, D.tru, dAdd, dSub, dMul, dMod, dFdiv, dPow, dII, dCmp, dNeg, dIs, dIsNot, D.isN, D.isB, fLen, fMax2, fMin2, T.toD, T.toDs, T.im, T.ims, D.im, D.ims, List.map_cons, List.map_nil, List.length_cons, List.length_nil, List.cons_append, List.nil_append, List.append_nil, List.replicate_zero, List.replicate_succ, List.getElem?_cons_zero, List.getElem?_cons_succ, List.set_cons_zero, List.set_cons_succ, Nat.reduceAdd, Nat.reduceSub, Nat.reduceLT, Nat.reduceLeDiff, Nat.zero_add, Nat.sub_self, Option.map_some, Option.map_none, if_true, if_false, decide_true, decide_false, Bool.and_true, Bool.true_and, Bool.false_and, Bool.and_false, Bool.not_true, Bool.not_false, reduceIte, reduceCtorEq, szl, Nat.zero_le, List.length_map, dEq, dNe, dIx, dSl, toDs_p, toDs_g, toDs_gi, toDs_gp, List.map_map, Int.reduceLT, Int.reduceLE, Int.reduceAdd, Int.reduceSub, decide_not, dEqB_nn, dEqB_ints0, dEqB_ints, dEqB_int, dEqB_bl, List.map_append, fIsi, D.tyN, Option.bind_some, fSum, fAny, fAll, ints_g, bls_g, D.ints_map, kit_int_int, kit_bool_int, kit_NoneType_int, kit_str_int, kit_list_int, kit_tuple_int, kit_dict_int, kit_int_bool, kit_bool_bool, kit_NoneType_bool, kit_str_bool, kit_list_bool, kit_tuple_bool, kit_dict_bool, kit_int_list, kit_bool_list, kit_NoneType_list, kit_str_list, kit_list_list, kit_tuple_list, kit_dict_list, kit_int_tuple, kit_bool_tuple, kit_NoneType_tuple, kit_str_tuple, kit_list_tuple, kit_tuple_tuple, kit_dict_tuple, kit_int_str, kit_bool_str, kit_NoneType_str, kit_str_str, kit_list_str, kit_tuple_str, kit_dict_str, nc0, nc1, nc2, nc3, nc4, nc5, nc6, nc7, nc8, toDs_c, dEqB_dS0, fMin1, fMax1, toDs_append, h i, q]
  · simp only [mDef, env0, mSeq, mAsg, mAsgF, mAsgT, mB, mV, mC, mRet, mRetV, mIfS, asB, mCall, mCons, mNil, mConsT, mNilT, mL, mTup, mCB, mIf, mNot, mAnd, mOr, mTru, mAndV, mOrV, mNotV, mU, mChI, mO, mSl, mFrz, mBw, mBwB, mNext, frzE, iSeq, iRng1, iRng2, iRng3, iEnumD, iZipD, gN, gT, gC, gNl, mDrop, D.tru, dAdd, dSub, dMul, dMod, dFdiv, dPow, dII, dCmp, dNeg, dIs, dIsNot, D.isN, D.isB, fLen, fMax2, fMin2, T.toD, T.toDs, T.im, T.ims, D.im, D.ims, List.map_cons, List.map_nil, List.length_cons, List.length_nil, List.cons_append, List.nil_append, List.append_nil, List.replicate_zero, List.replicate_succ, List.getElem?_cons_zero, List.getElem?_cons_succ, List.set_cons_zero, List.set_cons_succ, Nat.reduceAdd, Nat.reduceSub, Nat.reduceLT, Nat.reduceLeDiff, Nat.zero_add, Nat.sub_self, Option.map_some, Option.map_none, if_true, if_false, decide_true, decide_false, Bool.and_true, Bool.true_and, Bool.false_and, Bool.and_false, Bool.not_true, Bool.not_false, reduceIte, reduceCtorEq, szl, Nat.zero_le, List.length_map, dEq, dNe, dIx, dSl, toDs_p, toDs_g, toDs_gi, toDs_gp, List.map_map, Int.reduceLT, Int.reduceLE, Int.reduceAdd, Int.reduceSub, decide_not, dEqB_nn, dEqB_ints0, dEqB_ints, dEqB_int, dEqB_bl, List.map_append, fIsi, D.tyN, Option.bind_some, fSum, fAny, fAll, ints_g, bls_g, D.ints_map, kit_int_int, kit_bool_int, kit_NoneType_int, kit_str_int, kit_list_int, kit_tuple_int, kit_dict_int, kit_int_bool, kit_bool_bool, kit_NoneType_bool, kit_str_bool, kit_list_bool, kit_tuple_bool, kit_dict_bool, kit_int_list, kit_bool_list, kit_NoneType_list, kit_str_list, kit_list_list, kit_tuple_list, kit_dict_list, kit_int_tuple, kit_bool_tuple, kit_NoneType_tuple, kit_str_tuple, kit_list_tuple, kit_tuple_tuple, kit_dict_tuple, kit_int_str, kit_bool_str, kit_NoneType_str, kit_str_str, kit_list_str, kit_tuple_str, kit_dict_str, nc0, nc1, nc2, nc3, nc4, nc5, nc6, nc7, nc8, toDs_c, dEqB_dS0, fMin1, fMax1, toDs_append, h i, q]
abbrev HStretch (f : List D → RE) : Prop := ∀ p : Int × Int, 0 ≤ p.1 → p.1 < p.2 → p.2 ≤ 1000000 → f [dP p] = .ok (.p (.bl true))
theorem g_is_stretch {f : List D → RE} (h : HAmong f) : HStretch (G_is_stretch f) := by
  rintro ⟨a, b⟩ h0 h1 h2
  simp only at h0 h1 h2
  unfold G_is_stretch
  have q1 : f [.int a, .int 0, .int 1000000] = .ok (.p (.bl true)) := by rw [h, decide_eq_true h0, decide_eq_true (by omega)]; rfl
  have q2 : f [.int b, .int (a + 1), .int 1000000] = .ok (.p (.bl true)) := by rw [h, decide_eq_true (by omega), decide_eq_true h2]; rfl
  simp only [mDef, env0, mSeq, mAsg, mAsgF, mAsgT, mB, mV, mC, mRet, mRetV, mIfS, asB, mCall, mCons, mNil, mConsT, mNilT, mL, mTup, mCB, mIf, mNot, mAnd, mOr, mTru, mAndV, mOrV, mNotV, mU, mChI, mO, mSl, mFrz, mBw, mBwB, mNext, frzE, iSeq, iRng1, iRng2, iRng3, iEnumD, iZipD, gN, gT, gC, gNl, mDrop, D.tru, dAdd, dSub, dMul, dMod, dFdiv, dPow, dII, dCmp, dNeg, dIs, dIsNot, D.isN, D.isB, fLen, fMax2, fMin2, T.toD, T.toDs, T.im, T.ims, D.im, D.ims, List.map_cons, List.map_nil, List.length_cons, List.length_nil, List.cons_append, List.nil_append, List.append_nil, List.replicate_zero, List.replicate_succ, List.getElem?_cons_zero, List.getElem?_cons_succ, List.set_cons_zero, List.set_cons_succ, Nat.reduceAdd, Nat.reduceSub, Nat.reduceLT, Nat.reduceLeDiff, Nat.zero_add, Nat.sub_self, Option.map_some, Option.map_none, if_true, if_false, decide_true, decide_false, Bool.and_true, Bool.true_and, Bool.false_and, Bool.and_false, Bool.not_true, Bool.not_false, reduceIte, reduceCtorEq, szl, Nat.zero_le, List.length_map, dEq, dNe, dIx, dSl, toDs_p, toDs_g, toDs_gi, toDs_gp, List.map_map, Int.reduceLT, Int.reduceLE, Int.reduceAdd, Int.reduceSub, decide_not, dEqB_nn, dEqB_ints0, dEqB_ints, dEqB_int, dEqB_bl, List.map_append, fIsi, D.tyN, Option.bind_some, fSum, fAny, fAll, ints_g, bls_g, D.ints_map, kit_int_int, kit_bool_int, kit_NoneType_int, kit_str_int, kit_list_int, kit_tuple_int, kit_dict_int, kit_int_bool, kit_bool_bool, kit_NoneType_bool, kit_str_bool, kit_list_bool, kit_tuple_bool, kit_dict_bool, kit_int_list, kit_bool_list, kit_NoneType_list, kit_str_list, kit_list_list, kit_tuple_list, kit_dict_list, kit_int_tuple, kit_bool_tuple, kit_NoneType_tuple, kit_str_tuple, kit_list_tuple, kit_tuple_tuple, kit_dict_tuple, kit_int_str, kit_bool_str, kit_NoneType_str, kit_str_str, kit_list_str, kit_tuple_str, kit_dict_str, nc0, nc1, nc2, nc3, nc4, nc5, nc6, nc7, nc8, toDs_c, dEqB_dS0, fMin1, fMax1, toDs_append, q1, q2]
abbrev HAre (f : List D → RE) : Prop := ∀ ps, Good ps → f [dS ps] = .ok (.p (.bl true))
theorem g_are {f : List D → RE} (h : HStretch f) : HAre (G_are_stretches f) := by
  intro ps g
  unfold G_are_stretches
  apply mDef_rt
  have hl : ps.length ≤ 63 := g.len
  have hl2 : ¬ ((2000 : Int) < ps.length) := by omega
  refine mSeq_step (e1 := [some (.p (dS ps)), none, none]) (by simp only [mDef, env0, mSeq, mAsg, mAsgF, mAsgT, mB, mV, mC, mRet, mRetV, mIfS, asB, mCall, mCons, mNil, mConsT, mNilT, mL, mTup, mCB, mIf, mNot, mAnd, mOr, mTru, mAndV, mOrV, mNotV, mU, mChI, mO, mSl, mFrz, mBw, mBwB, mNext, frzE, iSeq, iRng1, iRng2, iRng3, iEnumD, iZipD, gN, gT, gC, gNl, mDrop, D.tru, dAdd, dSub, dMul, dMod, dFdiv, dPow, dII, dCmp, dNeg, dIs, dIsNot, D.isN, D.isB, fLen, fMax2, fMin2, T.toD, T.toDs, T.im, T.ims, D.im, D.ims, List.map_cons, List.map_nil, List.length_cons, List.length_nil, List.cons_append, List.nil_append, List.append_nil, List.replicate_zero, List.replicate_succ, List.getElem?_cons_zero, List.getElem?_cons_succ, List.set_cons_zero, List.set_cons_succ, Nat.reduceAdd, Nat.reduceSub, Nat.reduceLT, Nat.reduceLeDiff, Nat.zero_add, Nat.sub_self, Option.map_some, Option.map_none, if_true, if_false, decide_true, decide_false, Bool.and_true, Bool.true_and, Bool.false_and, Bool.and_false, Bool.not_true, Bool.not_false, reduceIte, reduceCtorEq, szl, Nat.zero_le, List.length_map, dEq, dNe, dIx, dSl, toDs_p, toDs_g, toDs_gi, toDs_gp, List.map_map, Int.reduceLT, Int.reduceLE, Int.reduceAdd, Int.reduceSub, decide_not, dEqB_nn, dEqB_ints0, dEqB_ints, dEqB_int, dEqB_bl, List.map_append, fIsi, D.tyN, Option.bind_some, fSum, fAny, fAll, ints_g, bls_g, D.ints_map, kit_int_int, kit_bool_int, kit_NoneType_int, kit_str_int, kit_list_int, kit_tuple_int, kit_dict_int, kit_int_bool, kit_bool_bool, kit_NoneType_bool, kit_str_bool, kit_list_bool, kit_tuple_bool, kit_dict_bool, kit_int_list, kit_bool_list, kit_NoneType_list, kit_str_list, kit_list_list, kit_tuple_list, kit_dict_list, kit_int_tuple, kit_bool_tuple, kit_NoneType_tuple, kit_str_tuple, kit_list_tuple, kit_tuple_tuple, kit_dict_tuple, kit_int_str, kit_bool_str, kit_NoneType_str, kit_str_str, kit_list_str, kit_tuple_str, kit_dict_str, nc0, nc1, nc2, nc3, nc4, nc5, nc6, nc7, nc8, toDs_c, dEqB_dS0, fMin1, fMax1, toDs_append, hl2]) ?_
  refine mSeq_step (e1 := [some (.p (dS ps)), some (.p (.int (-1))), none]) (by simp only [mDef, env0, mSeq, mAsg, mAsgF, mAsgT, mB, mV, mC, mRet, mRetV, mIfS, asB, mCall, mCons, mNil, mConsT, mNilT, mL, mTup, mCB, mIf, mNot, mAnd, mOr, mTru, mAndV, mOrV, mNotV, mU, mChI, mO, mSl, mFrz, mBw, mBwB, mNext, frzE, iSeq, iRng1, iRng2, iRng3, iEnumD, iZipD, gN, gT, gC, gNl, mDrop, D.tru, dAdd, dSub, dMul, dMod, dFdiv, dPow, dII, dCmp, dNeg, dIs, dIsNot, D.isN, D.isB, fLen, fMax2, fMin2, T.toD, T.toDs, T.im, T.ims, D.im, D.ims, List.map_cons, List.map_nil, List.length_cons, List.length_nil, List.cons_append, List.nil_append, List.append_nil, List.replicate_zero, List.replicate_succ, List.getElem?_cons_zero, List.getElem?_cons_succ, List.set_cons_zero, List.set_cons_succ, Nat.reduceAdd, Nat.reduceSub, Nat.reduceLT, Nat.reduceLeDiff, Nat.zero_add, Nat.sub_self, Option.map_some, Option.map_none, if_true, if_false, decide_true, decide_false, Bool.and_true, Bool.true_and, Bool.false_and, Bool.and_false, Bool.not_true, Bool.not_false, reduceIte, reduceCtorEq, szl, Nat.zero_le, List.length_map, dEq, dNe, dIx, dSl, toDs_p, toDs_g, toDs_gi, toDs_gp, List.map_map, Int.reduceLT, Int.reduceLE, Int.reduceAdd, Int.reduceSub, decide_not, dEqB_nn, dEqB_ints0, dEqB_ints, dEqB_int, dEqB_bl, List.map_append, fIsi, D.tyN, Option.bind_some, fSum, fAny, fAll, ints_g, bls_g, D.ints_map, kit_int_int, kit_bool_int, kit_NoneType_int, kit_str_int, kit_list_int, kit_tuple_int, kit_dict_int, kit_int_bool, kit_bool_bool, kit_NoneType_bool, kit_str_bool, kit_list_bool, kit_tuple_bool, kit_dict_bool, kit_int_list, kit_bool_list, kit_NoneType_list, kit_str_list, kit_list_list, kit_tuple_list, kit_dict_list, kit_int_tuple, kit_bool_tuple, kit_NoneType_tuple, kit_str_tuple, kit_list_tuple, kit_tuple_tuple, kit_dict_tuple, kit_int_str, kit_bool_str, kit_NoneType_str, kit_str_str, kit_list_str, kit_tuple_str, kit_dict_str, nc0, nc1, nc2, nc3, nc4, nc5, nc6, nc7, nc8, toDs_c, dEqB_dS0, fMin1, fMax1, toDs_append]) ?_
  refine mSeq_for ps dP (fun rest e => ∃ (z : Int) (x : Option T), e = [some (.p (dS ps)), some (.p (.int z)), x] ∧ (∀ p ∈ rest, z < p.1) ∧ rest.Pairwise fun p q => p.2 < q.1) ?_ ?_ ?_ ?_
  · simp only [mDef, env0, mSeq, mAsg, mAsgF, mAsgT, mB, mV, mC, mRet, mRetV, mIfS, asB, mCall, mCons, mNil, mConsT, mNilT, mL, mTup, mCB, mIf, mNot, mAnd, mOr, mTru, mAndV, mOrV, mNotV, mU, mChI, mO, mSl, mFrz, mBw, mBwB, mNext, frzE, iSeq, iRng1, iRng2, iRng3, iEnumD, iZipD, gN, gT, gC, gNl, mDrop, D.tru, dAdd, dSub, dMul, dMod, dFdiv, dPow, dII, dCmp, dNeg, dIs, dIsNot, D.isN, D.isB, fLen, fMax2, fMin2, T.toD, T.toDs, T.im, T.ims, D.im, D.ims, List.map_cons, List.map_nil, List.length_cons, List.length_nil, List.cons_append, List.nil_append, List.append_nil, List.replicate_zero, List.replicate_succ, List.getElem?_cons_zero, List.getElem?_cons_succ, List.set_cons_zero, List.set_cons_succ, Nat.reduceAdd, Nat.reduceSub, Nat.reduceLT, Nat.reduceLeDiff, Nat.zero_add, Nat.sub_self, Option.map_some, Option.map_none, if_true, if_false, decide_true, decide_false, Bool.and_true, Bool.true_and, Bool.false_and, Bool.and_false, Bool.not_true, Bool.not_false, reduceIte, reduceCtorEq, szl, Nat.zero_le, List.length_map, dEq, dNe, dIx, dSl, toDs_p, toDs_g, toDs_gi, toDs_gp, List.map_map, Int.reduceLT, Int.reduceLE, Int.reduceAdd, Int.reduceSub, decide_not, dEqB_nn, dEqB_ints0, dEqB_ints, dEqB_int, dEqB_bl, List.map_append, fIsi, D.tyN, Option.bind_some, fSum, fAny, fAll, ints_g, bls_g, D.ints_map, kit_int_int, kit_bool_int, kit_NoneType_int, kit_str_int, kit_list_int, kit_tuple_int, kit_dict_int, kit_int_bool, kit_bool_bool, kit_NoneType_bool, kit_str_bool, kit_list_bool, kit_tuple_bool, kit_dict_bool, kit_int_list, kit_bool_list, kit_NoneType_list, kit_str_list, kit_list_list, kit_tuple_list, kit_dict_list, kit_int_tuple, kit_bool_tuple, kit_NoneType_tuple, kit_str_tuple, kit_list_tuple, kit_tuple_tuple, kit_dict_tuple, kit_int_str, kit_bool_str, kit_NoneType_str, kit_str_str, kit_list_str, kit_tuple_str, kit_dict_str, nc0, nc1, nc2, nc3, nc4, nc5, nc6, nc7, nc8, toDs_c, dEqB_dS0, fMin1, fMax1, toDs_append]
  · exact ⟨-1, none, rfl, fun p hp => by have := (g.bd p hp).1; omega, g.ord⟩
  · rintro ⟨a, b⟩ ys e hx ⟨z, x, rfl, h1, h2⟩
    obtain ⟨b0, b1, b2⟩ := g.bd _ hx
    have hh := h (a, b) b0 b1 b2
    have hz : ¬ (a ≤ z) := by have := h1 (a, b) List.mem_cons_self; simp only at this; omega
    refine ⟨[some (.p (dS ps)), some (.p (.int z)), some (.p (dP (a, b)))], [some (.p (dS ps)), some (.p (.int b)), some (.p (dP (a, b)))], by simp only [mDef, env0, mSeq, mAsg, mAsgF, mAsgT, mB, mV, mC, mRet, mRetV, mIfS, asB, mCall, mCons, mNil, mConsT, mNilT, mL, mTup, mCB, mIf, mNot, mAnd, mOr, mTru, mAndV, mOrV, mNotV, mU, mChI, mO, mSl, mFrz, mBw, mBwB, mNext, frzE, iSeq, iRng1, iRng2, iRng3, iEnumD, iZipD, gN, gT, gC, gNl, mDrop, D.tru, dAdd, dSub, dMul, dMod, dFdiv, dPow, dII, dCmp, dNeg, dIs, dIsNot, D.isN, D.isB, fLen, fMax2, fMin2, T.toD, T.toDs, T.im, T.ims, D.im, D.ims, List.map_cons, List.map_nil, List.length_cons, List.length_nil, List.cons_append, List.nil_append, List.append_nil, List.replicate_zero, List.replicate_succ, List.getElem?_cons_zero, List.getElem?_cons_succ, List.set_cons_zero, List.set_cons_succ, Nat.reduceAdd, Nat.reduceSub, Nat.reduceLT, Nat.reduceLeDiff, Nat.zero_add, Nat.sub_self, Option.map_some, Option.map_none, if_true, if_false, decide_true, decide_false, Bool.and_true, Bool.true_and, Bool.false_and, Bool.and_false, Bool.not_true, Bool.not_false, reduceIte, reduceCtorEq, szl, Nat.zero_le, List.length_map, dEq, dNe, dIx, dSl, toDs_p, toDs_g, toDs_gi, toDs_gp, List.map_map, Int.reduceLT, Int.reduceLE, Int.reduceAdd, Int.reduceSub, decide_not, dEqB_nn, dEqB_ints0, dEqB_ints, dEqB_int, dEqB_bl, List.map_append, fIsi, D.tyN, Option.bind_some, fSum, fAny, fAll, ints_g, bls_g, D.ints_map, kit_int_int, kit_bool_int, kit_NoneType_int, kit_str_int, kit_list_int, kit_tuple_int, kit_dict_int, kit_int_bool, kit_bool_bool, kit_NoneType_bool, kit_str_bool, kit_list_bool, kit_tuple_bool, kit_dict_bool, kit_int_list, kit_bool_list, kit_NoneType_list, kit_str_list, kit_list_list, kit_tuple_list, kit_dict_list, kit_int_tuple, kit_bool_tuple, kit_NoneType_tuple, kit_str_tuple, kit_list_tuple, kit_tuple_tuple, kit_dict_tuple, kit_int_str, kit_bool_str, kit_NoneType_str, kit_str_str, kit_list_str, kit_tuple_str, kit_dict_str, nc0, nc1, nc2, nc3, nc4, nc5, nc6, nc7, nc8, toDs_c, dEqB_dS0, fMin1, fMax1, toDs_append], ?_, b, _, rfl, ?_, ?_⟩
    · refine mSeq_step (e1 := [some (.p (dS ps)), some (.p (.int z)), some (.p (dP (a, b)))]) ?_ ?_
      · simp only [mDef, env0, mSeq, mAsg, mAsgF, mAsgT, mB, mV, mC, mRet, mRetV, mIfS, asB, mCall, mCons, mNil, mConsT, mNilT, mL, mTup, mCB, mIf, mNot, mAnd, mOr, mTru, mAndV, mOrV, mNotV, mU, mChI, mO, mSl, mFrz, mBw, mBwB, mNext, frzE, iSeq, iRng1, iRng2, iRng3, iEnumD, iZipD, gN, gT, gC, gNl, mDrop, D.tru, dAdd, dSub, dMul, dMod, dFdiv, dPow, dII, dCmp, dNeg, dIs, dIsNot, D.isN, D.isB, fLen, fMax2, fMin2, T.toD, T.toDs, T.im, T.ims, D.im, D.ims, List.map_cons, List.map_nil, List.length_cons, List.length_nil, List.cons_append, List.nil_append, List.append_nil, List.replicate_zero, List.replicate_succ, List.getElem?_cons_zero, List.getElem?_cons_succ, List.set_cons_zero, List.set_cons_succ, Nat.reduceAdd, Nat.reduceSub, Nat.reduceLT, Nat.reduceLeDiff, Nat.zero_add, Nat.sub_self, Option.map_some, Option.map_none, if_true, if_false, decide_true, decide_false, Bool.and_true, Bool.true_and, Bool.false_and, Bool.and_false, Bool.not_true, Bool.not_false, reduceIte, reduceCtorEq, szl, Nat.zero_le, List.length_map, dEq, dNe, dIx, dSl, toDs_p, toDs_g, toDs_gi, toDs_gp, List.map_map, Int.reduceLT, Int.reduceLE, Int.reduceAdd, Int.reduceSub, decide_not, dEqB_nn, dEqB_ints0, dEqB_ints, dEqB_int, dEqB_bl, List.map_append, fIsi, D.tyN, Option.bind_some, fSum, fAny, fAll, ints_g, bls_g, D.ints_map, kit_int_int, kit_bool_int, kit_NoneType_int, kit_str_int, kit_list_int, kit_tuple_int, kit_dict_int, kit_int_bool, kit_bool_bool, kit_NoneType_bool, kit_str_bool, kit_list_bool, kit_tuple_bool, kit_dict_bool, kit_int_list, kit_bool_list, kit_NoneType_list, kit_str_list, kit_list_list, kit_tuple_list, kit_dict_list, kit_int_tuple, kit_bool_tuple, kit_NoneType_tuple, kit_str_tuple, kit_list_tuple, kit_tuple_tuple, kit_dict_tuple, kit_int_str, kit_bool_str, kit_NoneType_str, kit_str_str, kit_list_str, kit_tuple_str, kit_dict_str, nc0, nc1, nc2, nc3, nc4, nc5, nc6, nc7, nc8, toDs_c, dEqB_dS0, fMin1, fMax1, toDs_append, hh, atI2_0, hz]
      · simp only [mDef, env0, mSeq, mAsg, mAsgF, mAsgT, mB, mV, mC, mRet, mRetV, mIfS, asB, mCall, mCons, mNil, mConsT, mNilT, mL, mTup, mCB, mIf, mNot, mAnd, mOr, mTru, mAndV, mOrV, mNotV, mU, mChI, mO, mSl, mFrz, mBw, mBwB, mNext, frzE, iSeq, iRng1, iRng2, iRng3, iEnumD, iZipD, gN, gT, gC, gNl, mDrop, D.tru, dAdd, dSub, dMul, dMod, dFdiv, dPow, dII, dCmp, dNeg, dIs, dIsNot, D.isN, D.isB, fLen, fMax2, fMin2, T.toD, T.toDs, T.im, T.ims, D.im, D.ims, List.map_cons, List.map_nil, List.length_cons, List.length_nil, List.cons_append, List.nil_append, List.append_nil, List.replicate_zero, List.replicate_succ, List.getElem?_cons_zero, List.getElem?_cons_succ, List.set_cons_zero, List.set_cons_succ, Nat.reduceAdd, Nat.reduceSub, Nat.reduceLT, Nat.reduceLeDiff, Nat.zero_add, Nat.sub_self, Option.map_some, Option.map_none, if_true, if_false, decide_true, decide_false, Bool.and_true, Bool.true_and, Bool.false_and, Bool.and_false, Bool.not_true, Bool.not_false, reduceIte, reduceCtorEq, szl, Nat.zero_le, List.length_map, dEq, dNe, dIx, dSl, toDs_p, toDs_g, toDs_gi, toDs_gp, List.map_map, Int.reduceLT, Int.reduceLE, Int.reduceAdd, Int.reduceSub, decide_not, dEqB_nn, dEqB_ints0, dEqB_ints, dEqB_int, dEqB_bl, List.map_append, fIsi, D.tyN, Option.bind_some, fSum, fAny, fAll, ints_g, bls_g, D.ints_map, kit_int_int, kit_bool_int, kit_NoneType_int, kit_str_int, kit_list_int, kit_tuple_int, kit_dict_int, kit_int_bool, kit_bool_bool, kit_NoneType_bool, kit_str_bool, kit_list_bool, kit_tuple_bool, kit_dict_bool, kit_int_list, kit_bool_list, kit_NoneType_list, kit_str_list, kit_list_list, kit_tuple_list, kit_dict_list, kit_int_tuple, kit_bool_tuple, kit_NoneType_tuple, kit_str_tuple, kit_list_tuple, kit_tuple_tuple, kit_dict_tuple, kit_int_str, kit_bool_str, kit_NoneType_str, kit_str_str, kit_list_str, kit_tuple_str, kit_dict_str, nc0, nc1, nc2, nc3, nc4, nc5, nc6, nc7, nc8, toDs_c, dEqB_dS0, fMin1, fMax1, toDs_append, atI2_1]
    · intro p hp
      exact (List.pairwise_cons.mp h2).1 p hp
    · exact (List.pairwise_cons.mp h2).2
  · rintro e' ⟨z, x, rfl, _, _⟩
    simp only [mDef, env0, mSeq, mAsg, mAsgF, mAsgT, mB, mV, mC, mRet, mRetV, mIfS, asB, mCall, mCons, mNil, mConsT, mNilT, mL, mTup, mCB, mIf, mNot, mAnd, mOr, mTru, mAndV, mOrV, mNotV, mU, mChI, mO, mSl, mFrz, mBw, mBwB, mNext, frzE, iSeq, iRng1, iRng2, iRng3, iEnumD, iZipD, gN, gT, gC, gNl, mDrop, D.tru, dAdd, dSub, dMul, dMod, dFdiv, dPow, dII, dCmp, dNeg, dIs, dIsNot, D.isN, D.isB, fLen, fMax2, fMin2, T.toD, T.toDs, T.im, T.ims, D.im, D.ims, List.map_cons, List.map_nil, List.length_cons, List.length_nil, List.cons_append, List.nil_append, List.append_nil, List.replicate_zero, List.replicate_succ, List.getElem?_cons_zero, List.getElem?_cons_succ, List.set_cons_zero, List.set_cons_succ, Nat.reduceAdd, Nat.reduceSub, Nat.reduceLT, Nat.reduceLeDiff, Nat.zero_add, Nat.sub_self, Option.map_some, Option.map_none, if_true, if_false, decide_true, decide_false, Bool.and_true, Bool.true_and, Bool.false_and, Bool.and_false, Bool.not_true, Bool.not_false, reduceIte, reduceCtorEq, szl, Nat.zero_le, List.length_map, dEq, dNe, dIx, dSl, toDs_p, toDs_g, toDs_gi, toDs_gp, List.map_map, Int.reduceLT, Int.reduceLE, Int.reduceAdd, Int.reduceSub, decide_not, dEqB_nn, dEqB_ints0, dEqB_ints, dEqB_int, dEqB_bl, List.map_append, fIsi, D.tyN, Option.bind_some, fSum, fAny, fAll, ints_g, bls_g, D.ints_map, kit_int_int, kit_bool_int, kit_NoneType_int, kit_str_int, kit_list_int, kit_tuple_int, kit_dict_int, kit_int_bool, kit_bool_bool, kit_NoneType_bool, kit_str_bool, kit_list_bool, kit_tuple_bool, kit_dict_bool, kit_int_list, kit_bool_list, kit_NoneType_list, kit_str_list, kit_list_list, kit_tuple_list, kit_dict_list, kit_int_tuple, kit_bool_tuple, kit_NoneType_tuple, kit_str_tuple, kit_list_tuple, kit_tuple_tuple, kit_dict_tuple, kit_int_str, kit_bool_str, kit_NoneType_str, kit_str_str, kit_list_str, kit_tuple_str, kit_dict_str, nc0, nc1, nc2, nc3, nc4, nc5, nc6, nc7, nc8, toDs_c, dEqB_dS0, fMin1, fMax1, toDs_append]
abbrev HNeed (f : List D → RE) : Prop := ∀ ps, Good ps → f [dS ps] = .ok (.p .non)
theorem g_need {f : List D → RE} (h : HAre f) : HNeed (G_need_stretches f) := by
  intro ps g
  have := h ps g
  unfold G_need_stretches
  simp only [mDef, env0, mSeq, mAsg, mAsgF, mAsgT, mB, mV, mC, mRet, mRetV, mIfS, asB, mCall, mCons, mNil, mConsT, mNilT, mL, mTup, mCB, mIf, mNot, mAnd, mOr, mTru, mAndV, mOrV, mNotV, mU, mChI, mO, mSl, mFrz, mBw, mBwB, mNext, frzE, iSeq, iRng1, iRng2, iRng3, iEnumD, iZipD, gN, gT, gC, gNl, mDrop, D.tru, dAdd, dSub, dMul, dMod, dFdiv, dPow, dII, dCmp, dNeg, dIs, dIsNot, D.isN, D.isB, fLen, fMax2, fMin2, T.toD, T.toDs, T.im, T.ims, D.im, D.ims, List.map_cons, List.map_nil, List.length_cons, List.length_nil, List.cons_append, List.nil_append, List.append_nil, List.replicate_zero, List.replicate_succ, List.getElem?_cons_zero, List.getElem?_cons_succ, List.set_cons_zero, List.set_cons_succ, Nat.reduceAdd, Nat.reduceSub, Nat.reduceLT, Nat.reduceLeDiff, Nat.zero_add, Nat.sub_self, Option.map_some, Option.map_none, if_true, if_false, decide_true, decide_false, Bool.and_true, Bool.true_and, Bool.false_and, Bool.and_false, Bool.not_true, Bool.not_false, reduceIte, reduceCtorEq, szl, Nat.zero_le, List.length_map, dEq, dNe, dIx, dSl, toDs_p, toDs_g, toDs_gi, toDs_gp, List.map_map, Int.reduceLT, Int.reduceLE, Int.reduceAdd, Int.reduceSub, decide_not, dEqB_nn, dEqB_ints0, dEqB_ints, dEqB_int, dEqB_bl, List.map_append, fIsi, D.tyN, Option.bind_some, fSum, fAny, fAll, ints_g, bls_g, D.ints_map, kit_int_int, kit_bool_int, kit_NoneType_int, kit_str_int, kit_list_int, kit_tuple_int, kit_dict_int, kit_int_bool, kit_bool_bool, kit_NoneType_bool, kit_str_bool, kit_list_bool, kit_tuple_bool, kit_dict_bool, kit_int_list, kit_bool_list, kit_NoneType_list, kit_str_list, kit_list_list, kit_tuple_list, kit_dict_list, kit_int_tuple, kit_bool_tuple, kit_NoneType_tuple, kit_str_tuple, kit_list_tuple, kit_tuple_tuple, kit_dict_tuple, kit_int_str, kit_bool_str, kit_NoneType_str, kit_str_str, kit_list_str, kit_tuple_str, kit_dict_str, nc0, nc1, nc2, nc3, nc4, nc5, nc6, nc7, nc8, toDs_c, dEqB_dS0, fMin1, fMax1, toDs_append, this]

theorem Good.can {ps : List (Int × Int)} (g : Good ps) : Can ps := ⟨fun p hp => (g.bd p hp).2.1, g.ord⟩
theorem good_nil : Good [] := ⟨by simp, fun p hp => by simp at hp, .nil⟩
/-! ### the program's functions -/
abbrev HOv (f : List D → RE) : Prop := ∀ ps qs : List (Int × Int), ps.length ≤ 1000 → qs.length ≤ 1000 → f [dS ps, dS qs] = .ok (tS (ov ps qs))
theorem atI_dS {ps : List (Int × Int)} {i : Nat} (h : i < ps.length) : atI (ps.map dP) (i : Int) = some (dP ps[i]) := by
  rw [atI_nat (by rw [List.length_map]; exact h), List.getElem_map]
theorem g_ov : HOv G_overlaps := by
  intro ps qs h1 h2
  unfold G_overlaps
  apply mDef_rt
  refine mSeq_step (e1 := [some (.p (dS ps)), some (.p (dS qs)), some (.l []), none, none, none, none]) (by simp only [mDef, env0, mSeq, mAsg, mAsgF, mAsgT, mB, mV, mC, mRet, mRetV, mIfS, asB, mCall, mCons, mNil, mConsT, mNilT, mL, mTup, mCB, mIf, mNot, mAnd, mOr, mTru, mAndV, mOrV, mNotV, mU, mChI, mO, mSl, mFrz, mBw, mBwB, mNext, frzE, iSeq, iRng1, iRng2, iRng3, iEnumD, iZipD, gN, gT, gC, gNl, mDrop, D.tru, dAdd, dSub, dMul, dMod, dFdiv, dPow, dII, dCmp, dNeg, dIs, dIsNot, D.isN, D.isB, fLen, fMax2, fMin2, T.toD, T.toDs, T.im, T.ims, D.im, D.ims, List.map_cons, List.map_nil, List.length_cons, List.length_nil, List.cons_append, List.nil_append, List.append_nil, List.replicate_zero, List.replicate_succ, List.getElem?_cons_zero, List.getElem?_cons_succ, List.set_cons_zero, List.set_cons_succ, Nat.reduceAdd, Nat.reduceSub, Nat.reduceLT, Nat.reduceLeDiff, Nat.zero_add, Nat.sub_self, Option.map_some, Option.map_none, if_true, if_false, decide_true, decide_false, Bool.and_true, Bool.true_and, Bool.false_and, Bool.and_false, Bool.not_true, Bool.not_false, reduceIte, reduceCtorEq, szl, Nat.zero_le, List.length_map, dEq, dNe, dIx, dSl, toDs_p, toDs_g, toDs_gi, toDs_gp, List.map_map, Int.reduceLT, Int.reduceLE, Int.reduceAdd, Int.reduceSub, decide_not, dEqB_nn, dEqB_ints0, dEqB_ints, dEqB_int, dEqB_bl, List.map_append, fIsi, D.tyN, Option.bind_some, fSum, fAny, fAll, ints_g, bls_g, D.ints_map, kit_int_int, kit_bool_int, kit_NoneType_int, kit_str_int, kit_list_int, kit_tuple_int, kit_dict_int, kit_int_bool, kit_bool_bool, kit_NoneType_bool, kit_str_bool, kit_list_bool, kit_tuple_bool, kit_dict_bool, kit_int_list, kit_bool_list, kit_NoneType_list, kit_str_list, kit_list_list, kit_tuple_list, kit_dict_list, kit_int_tuple, kit_bool_tuple, kit_NoneType_tuple, kit_str_tuple, kit_list_tuple, kit_tuple_tuple, kit_dict_tuple, kit_int_str, kit_bool_str, kit_NoneType_str, kit_str_str, kit_list_str, kit_tuple_str, kit_dict_str, nc0, nc1, nc2, nc3, nc4, nc5, nc6, nc7, nc8, toDs_c, dEqB_dS0, fMin1, fMax1, toDs_append]) ?_
  refine mSeq_step (e1 := [some (.p (dS ps)), some (.p (dS qs)), some (.l []), some (.p (.int 0)), none, none, none]) (by simp only [mDef, env0, mSeq, mAsg, mAsgF, mAsgT, mB, mV, mC, mRet, mRetV, mIfS, asB, mCall, mCons, mNil, mConsT, mNilT, mL, mTup, mCB, mIf, mNot, mAnd, mOr, mTru, mAndV, mOrV, mNotV, mU, mChI, mO, mSl, mFrz, mBw, mBwB, mNext, frzE, iSeq, iRng1, iRng2, iRng3, iEnumD, iZipD, gN, gT, gC, gNl, mDrop, D.tru, dAdd, dSub, dMul, dMod, dFdiv, dPow, dII, dCmp, dNeg, dIs, dIsNot, D.isN, D.isB, fLen, fMax2, fMin2, T.toD, T.toDs, T.im, T.ims, D.im, D.ims, List.map_cons, List.map_nil, List.length_cons, List.length_nil, List.cons_append, List.nil_append, List.append_nil, List.replicate_zero, List.replicate_succ, List.getElem?_cons_zero, List.getElem?_cons_succ, List.set_cons_zero, List.set_cons_succ, Nat.reduceAdd, Nat.reduceSub, Nat.reduceLT, Nat.reduceLeDiff, Nat.zero_add, Nat.sub_self, Option.map_some, Option.map_none, if_true, if_false, decide_true, decide_false, Bool.and_true, Bool.true_and, Bool.false_and, Bool.and_false, Bool.not_true, Bool.not_false, reduceIte, reduceCtorEq, szl, Nat.zero_le, List.length_map, dEq, dNe, dIx, dSl, toDs_p, toDs_g, toDs_gi, toDs_gp, List.map_map, Int.reduceLT, Int.reduceLE, Int.reduceAdd, Int.reduceSub, decide_not, dEqB_nn, dEqB_ints0, dEqB_ints, dEqB_int, dEqB_bl, List.map_append, fIsi, D.tyN, Option.bind_some, fSum, fAny, fAll, ints_g, bls_g, D.ints_map, kit_int_int, kit_bool_int, kit_NoneType_int, kit_str_int, kit_list_int, kit_tuple_int, kit_dict_int, kit_int_bool, kit_bool_bool, kit_NoneType_bool, kit_str_bool, kit_list_bool, kit_tuple_bool, kit_dict_bool, kit_int_list, kit_bool_list, kit_NoneType_list, kit_str_list, kit_list_list, kit_tuple_list, kit_dict_list, kit_int_tuple, kit_bool_tuple, kit_NoneType_tuple, kit_str_tuple, kit_list_tuple, kit_tuple_tuple, kit_dict_tuple, kit_int_str, kit_bool_str, kit_NoneType_str, kit_str_str, kit_list_str, kit_tuple_str, kit_dict_str, nc0, nc1, nc2, nc3, nc4, nc5, nc6, nc7, nc8, toDs_c, dEqB_dS0, fMin1, fMax1, toDs_append]) ?_
  refine mSeq_step (e1 := [some (.p (dS ps)), some (.p (dS qs)), some (.l []), some (.p (.int 0)), some (.p (.int 0)), none, none]) (by simp only [mDef, env0, mSeq, mAsg, mAsgF, mAsgT, mB, mV, mC, mRet, mRetV, mIfS, asB, mCall, mCons, mNil, mConsT, mNilT, mL, mTup, mCB, mIf, mNot, mAnd, mOr, mTru, mAndV, mOrV, mNotV, mU, mChI, mO, mSl, mFrz, mBw, mBwB, mNext, frzE, iSeq, iRng1, iRng2, iRng3, iEnumD, iZipD, gN, gT, gC, gNl, mDrop, D.tru, dAdd, dSub, dMul, dMod, dFdiv, dPow, dII, dCmp, dNeg, dIs, dIsNot, D.isN, D.isB, fLen, fMax2, fMin2, T.toD, T.toDs, T.im, T.ims, D.im, D.ims, List.map_cons, List.map_nil, List.length_cons, List.length_nil, List.cons_append, List.nil_append, List.append_nil, List.replicate_zero, List.replicate_succ, List.getElem?_cons_zero, List.getElem?_cons_succ, List.set_cons_zero, List.set_cons_succ, Nat.reduceAdd, Nat.reduceSub, Nat.reduceLT, Nat.reduceLeDiff, Nat.zero_add, Nat.sub_self, Option.map_some, Option.map_none, if_true, if_false, decide_true, decide_false, Bool.and_true, Bool.true_and, Bool.false_and, Bool.and_false, Bool.not_true, Bool.not_false, reduceIte, reduceCtorEq, szl, Nat.zero_le, List.length_map, dEq, dNe, dIx, dSl, toDs_p, toDs_g, toDs_gi, toDs_gp, List.map_map, Int.reduceLT, Int.reduceLE, Int.reduceAdd, Int.reduceSub, decide_not, dEqB_nn, dEqB_ints0, dEqB_ints, dEqB_int, dEqB_bl, List.map_append, fIsi, D.tyN, Option.bind_some, fSum, fAny, fAll, ints_g, bls_g, D.ints_map, kit_int_int, kit_bool_int, kit_NoneType_int, kit_str_int, kit_list_int, kit_tuple_int, kit_dict_int, kit_int_bool, kit_bool_bool, kit_NoneType_bool, kit_str_bool, kit_list_bool, kit_tuple_bool, kit_dict_bool, kit_int_list, kit_bool_list, kit_NoneType_list, kit_str_list, kit_list_list, kit_tuple_list, kit_dict_list, kit_int_tuple, kit_bool_tuple, kit_NoneType_tuple, kit_str_tuple, kit_list_tuple, kit_tuple_tuple, kit_dict_tuple, kit_int_str, kit_bool_str, kit_NoneType_str, kit_str_str, kit_list_str, kit_tuple_str, kit_dict_str, nc0, nc1, nc2, nc3, nc4, nc5, nc6, nc7, nc8, toDs_c, dEqB_dS0, fMin1, fMax1, toDs_append]) ?_
  refine mSeq_out (mWhile_out (fun q => (∃ e', q = .nx e' ∧ mRetV 2 e' = .rt (tS (ov ps qs))) ∨ (∃ u, q = .rt u ∧ R.rt (tS (ov ps qs)) = .rt u)) (fun n E => ∃ (i j : Nat) (out : List (Int × Int)) (x y : Option T), n = (ps.length - i) + (qs.length - j) ∧ i ≤ ps.length ∧ j ≤ qs.length ∧ out.length ≤ i + j ∧ out ++ ov (ps.drop i) (qs.drop j) = ov ps qs ∧ E = [some (.p (dS ps)), some (.p (dS qs)), some (tS out), some (.p (.int i)), some (.p (.int j)), x, y]) ?_ _ (ps.length + qs.length) _ ⟨0, 0, [], none, none, rfl, Nat.zero_le _, Nat.zero_le _, Nat.le_refl _, rfl, rfl⟩ (by omega))
  rintro n E ⟨i, j, out, x, y, rfl, hi, hj, hl, ho, rfl⟩
  have lp : (dS ps) = D.lst (ps.map dP) := rfl
  by_cases c1 : i < ps.length
  · have i1 : (i : Int) < (ps.length : Int) := by omega
    by_cases c2 : j < qs.length
    · have j1 : (j : Int) < (qs.length : Int) := by omega
      right
      have ai := atI_dS c1
      have aj := atI_dS c2
      obtain ⟨p, hp⟩ : ∃ p, p = ps[i] := ⟨_, rfl⟩
      obtain ⟨q, hq⟩ : ∃ q, q = qs[j] := ⟨_, rfl⟩
      have dp : ps.drop i = p :: ps.drop (i + 1) := by rw [hp]; exact List.drop_eq_getElem_cons c1
      have dq : qs.drop j = q :: qs.drop (j + 1) := by rw [hq]; exact List.drop_eq_getElem_cons c2
      rw [← hp] at ai
      rw [← hq] at aj
      have cl := cutP_len p q
      refine ⟨by simp only [mDef, env0, mSeq, mAsg, mAsgF, mAsgT, mB, mV, mC, mRet, mRetV, mIfS, asB, mCall, mCons, mNil, mConsT, mNilT, mL, mTup, mCB, mIf, mNot, mAnd, mOr, mTru, mAndV, mOrV, mNotV, mU, mChI, mO, mSl, mFrz, mBw, mBwB, mNext, frzE, iSeq, iRng1, iRng2, iRng3, iEnumD, iZipD, gN, gT, gC, gNl, mDrop, D.tru, dAdd, dSub, dMul, dMod, dFdiv, dPow, dII, dCmp, dNeg, dIs, dIsNot, D.isN, D.isB, fLen, fMax2, fMin2, T.toD, T.toDs, T.im, T.ims, D.im, D.ims, List.map_cons, List.map_nil, List.length_cons, List.length_nil, List.cons_append, List.nil_append, List.append_nil, List.replicate_zero, List.replicate_succ, List.getElem?_cons_zero, List.getElem?_cons_succ, List.set_cons_zero, List.set_cons_succ, Nat.reduceAdd, Nat.reduceSub, Nat.reduceLT, Nat.reduceLeDiff, Nat.zero_add, Nat.sub_self, Option.map_some, Option.map_none, if_true, if_false, decide_true, decide_false, Bool.and_true, Bool.true_and, Bool.false_and, Bool.and_false, Bool.not_true, Bool.not_false, reduceIte, reduceCtorEq, szl, Nat.zero_le, List.length_map, dEq, dNe, dIx, dSl, toDs_p, toDs_g, toDs_gi, toDs_gp, List.map_map, Int.reduceLT, Int.reduceLE, Int.reduceAdd, Int.reduceSub, decide_not, dEqB_nn, dEqB_ints0, dEqB_ints, dEqB_int, dEqB_bl, List.map_append, fIsi, D.tyN, Option.bind_some, fSum, fAny, fAll, ints_g, bls_g, D.ints_map, kit_int_int, kit_bool_int, kit_NoneType_int, kit_str_int, kit_list_int, kit_tuple_int, kit_dict_int, kit_int_bool, kit_bool_bool, kit_NoneType_bool, kit_str_bool, kit_list_bool, kit_tuple_bool, kit_dict_bool, kit_int_list, kit_bool_list, kit_NoneType_list, kit_str_list, kit_list_list, kit_tuple_list, kit_dict_list, kit_int_tuple, kit_bool_tuple, kit_NoneType_tuple, kit_str_tuple, kit_list_tuple, kit_tuple_tuple, kit_dict_tuple, kit_int_str, kit_bool_str, kit_NoneType_str, kit_str_str, kit_list_str, kit_tuple_str, kit_dict_str, nc0, nc1, nc2, nc3, nc4, nc5, nc6, nc7, nc8, toDs_c, dEqB_dS0, fMin1, fMax1, toDs_append, i1, j1], .inl ?_⟩
      have s1 : ∀ E' : Env, E' = [some (.p (dS ps)), some (.p (dS qs)), some (tS out), some (.p (.int i)), some (.p (.int j)), some (.p (.int (if q.1 > p.1 then q.1 else p.1))), some (.p (.int (if q.2 < p.2 then q.2 else p.2)))] →
          mIfS (asB (mB dLt (mV 5) (mV 6))) (mApp 2 (mTup (mCons (mV 5) (mCons (mV 6) mNil)))) mNext E' = .nx [some (.p (dS ps)), some (.p (dS qs)), some (tS (out ++ cutP p q)), some (.p (.int i)), some (.p (.int j)), some (.p (.int (if q.1 > p.1 then q.1 else p.1))), some (.p (.int (if q.2 < p.2 then q.2 else p.2)))] := by
        rintro E' rfl
        have ol : out.length < 16777216 := by omega
        unfold cutP
        generalize (if q.1 > p.1 then q.1 else p.1) = b at *
        generalize (if q.2 < p.2 then q.2 else p.2) = z at *
        unfold cutQ
        by_cases c : b < z
        · rw [if_pos c]
          simp only [mDef, env0, mSeq, mAsg, mAsgF, mAsgT, mB, mV, mC, mRet, mRetV, mIfS, asB, mCall, mCons, mNil, mConsT, mNilT, mL, mTup, mCB, mIf, mNot, mAnd, mOr, mTru, mAndV, mOrV, mNotV, mU, mChI, mO, mSl, mFrz, mBw, mBwB, mNext, frzE, iSeq, iRng1, iRng2, iRng3, iEnumD, iZipD, gN, gT, gC, gNl, mDrop, D.tru, dAdd, dSub, dMul, dMod, dFdiv, dPow, dII, dCmp, dNeg, dIs, dIsNot, D.isN, D.isB, fLen, fMax2, fMin2, T.toD, T.toDs, T.im, T.ims, D.im, D.ims, List.map_cons, List.map_nil, List.length_cons, List.length_nil, List.cons_append, List.nil_append, List.append_nil, List.replicate_zero, List.replicate_succ, List.getElem?_cons_zero, List.getElem?_cons_succ, List.set_cons_zero, List.set_cons_succ, Nat.reduceAdd, Nat.reduceSub, Nat.reduceLT, Nat.reduceLeDiff, Nat.zero_add, Nat.sub_self, Option.map_some, Option.map_none, if_true, if_false, decide_true, decide_false, Bool.and_true, Bool.true_and, Bool.false_and, Bool.and_false, Bool.not_true, Bool.not_false, reduceIte, reduceCtorEq, szl, Nat.zero_le, List.length_map, dEq, dNe, dIx, dSl, toDs_p, toDs_g, toDs_gi, toDs_gp, List.map_map, Int.reduceLT, Int.reduceLE, Int.reduceAdd, Int.reduceSub, decide_not, dEqB_nn, dEqB_ints0, dEqB_ints, dEqB_int, dEqB_bl, List.map_append, fIsi, D.tyN, Option.bind_some, fSum, fAny, fAll, ints_g, bls_g, D.ints_map, kit_int_int, kit_bool_int, kit_NoneType_int, kit_str_int, kit_list_int, kit_tuple_int, kit_dict_int, kit_int_bool, kit_bool_bool, kit_NoneType_bool, kit_str_bool, kit_list_bool, kit_tuple_bool, kit_dict_bool, kit_int_list, kit_bool_list, kit_NoneType_list, kit_str_list, kit_list_list, kit_tuple_list, kit_dict_list, kit_int_tuple, kit_bool_tuple, kit_NoneType_tuple, kit_str_tuple, kit_list_tuple, kit_tuple_tuple, kit_dict_tuple, kit_int_str, kit_bool_str, kit_NoneType_str, kit_str_str, kit_list_str, kit_tuple_str, kit_dict_str, nc0, nc1, nc2, nc3, nc4, nc5, nc6, nc7, nc8, toDs_c, dEqB_dS0, fMin1, fMax1, toDs_append, c, mApp, ol]
          simp only [tS, List.map_append, List.map_cons, List.map_nil]
        · rw [if_neg c, List.append_nil]
          simp only [mDef, env0, mSeq, mAsg, mAsgF, mAsgT, mB, mV, mC, mRet, mRetV, mIfS, asB, mCall, mCons, mNil, mConsT, mNilT, mL, mTup, mCB, mIf, mNot, mAnd, mOr, mTru, mAndV, mOrV, mNotV, mU, mChI, mO, mSl, mFrz, mBw, mBwB, mNext, frzE, iSeq, iRng1, iRng2, iRng3, iEnumD, iZipD, gN, gT, gC, gNl, mDrop, D.tru, dAdd, dSub, dMul, dMod, dFdiv, dPow, dII, dCmp, dNeg, dIs, dIsNot, D.isN, D.isB, fLen, fMax2, fMin2, T.toD, T.toDs, T.im, T.ims, D.im, D.ims, List.map_cons, List.map_nil, List.length_cons, List.length_nil, List.cons_append, List.nil_append, List.append_nil, List.replicate_zero, List.replicate_succ, List.getElem?_cons_zero, List.getElem?_cons_succ, List.set_cons_zero, List.set_cons_succ, Nat.reduceAdd, Nat.reduceSub, Nat.reduceLT, Nat.reduceLeDiff, Nat.zero_add, Nat.sub_self, Option.map_some, Option.map_none, if_true, if_false, decide_true, decide_false, Bool.and_true, Bool.true_and, Bool.false_and, Bool.and_false, Bool.not_true, Bool.not_false, reduceIte, reduceCtorEq, szl, Nat.zero_le, List.length_map, dEq, dNe, dIx, dSl, toDs_p, toDs_g, toDs_gi, toDs_gp, List.map_map, Int.reduceLT, Int.reduceLE, Int.reduceAdd, Int.reduceSub, decide_not, dEqB_nn, dEqB_ints0, dEqB_ints, dEqB_int, dEqB_bl, List.map_append, fIsi, D.tyN, Option.bind_some, fSum, fAny, fAll, ints_g, bls_g, D.ints_map, kit_int_int, kit_bool_int, kit_NoneType_int, kit_str_int, kit_list_int, kit_tuple_int, kit_dict_int, kit_int_bool, kit_bool_bool, kit_NoneType_bool, kit_str_bool, kit_list_bool, kit_tuple_bool, kit_dict_bool, kit_int_list, kit_bool_list, kit_NoneType_list, kit_str_list, kit_list_list, kit_tuple_list, kit_dict_list, kit_int_tuple, kit_bool_tuple, kit_NoneType_tuple, kit_str_tuple, kit_list_tuple, kit_tuple_tuple, kit_dict_tuple, kit_int_str, kit_bool_str, kit_NoneType_str, kit_str_str, kit_list_str, kit_tuple_str, kit_dict_str, nc0, nc1, nc2, nc3, nc4, nc5, nc6, nc7, nc8, toDs_c, dEqB_dS0, fMin1, fMax1, toDs_append, c]
      by_cases c3 : p.2 ≤ q.2
      · refine ⟨[some (.p (dS ps)), some (.p (dS qs)), some (tS (out ++ cutP p q)), some (.p (.int (i + 1 : Nat))), some (.p (.int j)), some (.p (.int (if q.1 > p.1 then q.1 else p.1))), some (.p (.int (if q.2 < p.2 then q.2 else p.2)))], (ps.length - (i + 1)) + (qs.length - j), ?_, by omega, i + 1, j, out ++ cutP p q, _, _, rfl, by omega, hj, by rw [List.length_append]; omega, ?_, rfl⟩
        · refine mSeq_step (e1 := [some (.p (dS ps)), some (.p (dS qs)), some (tS out), some (.p (.int i)), some (.p (.int j)), some (.p (.int (if q.1 > p.1 then q.1 else p.1))), y]) (by simp only [mDef, env0, mSeq, mAsg, mAsgF, mAsgT, mB, mV, mC, mRet, mRetV, mIfS, asB, mCall, mCons, mNil, mConsT, mNilT, mL, mTup, mCB, mIf, mNot, mAnd, mOr, mTru, mAndV, mOrV, mNotV, mU, mChI, mO, mSl, mFrz, mBw, mBwB, mNext, frzE, iSeq, iRng1, iRng2, iRng3, iEnumD, iZipD, gN, gT, gC, gNl, mDrop, D.tru, dAdd, dSub, dMul, dMod, dFdiv, dPow, dII, dCmp, dNeg, dIs, dIsNot, D.isN, D.isB, fLen, fMax2, fMin2, T.toD, T.toDs, T.im, T.ims, D.im, D.ims, List.map_cons, List.map_nil, List.length_cons, List.length_nil, List.cons_append, List.nil_append, List.append_nil, List.replicate_zero, List.replicate_succ, List.getElem?_cons_zero, List.getElem?_cons_succ, List.set_cons_zero, List.set_cons_succ, Nat.reduceAdd, Nat.reduceSub, Nat.reduceLT, Nat.reduceLeDiff, Nat.zero_add, Nat.sub_self, Option.map_some, Option.map_none, if_true, if_false, decide_true, decide_false, Bool.and_true, Bool.true_and, Bool.false_and, Bool.and_false, Bool.not_true, Bool.not_false, reduceIte, reduceCtorEq, szl, Nat.zero_le, List.length_map, dEq, dNe, dIx, dSl, toDs_p, toDs_g, toDs_gi, toDs_gp, List.map_map, Int.reduceLT, Int.reduceLE, Int.reduceAdd, Int.reduceSub, decide_not, dEqB_nn, dEqB_ints0, dEqB_ints, dEqB_int, dEqB_bl, List.map_append, fIsi, D.tyN, Option.bind_some, fSum, fAny, fAll, ints_g, bls_g, D.ints_map, kit_int_int, kit_bool_int, kit_NoneType_int, kit_str_int, kit_list_int, kit_tuple_int, kit_dict_int, kit_int_bool, kit_bool_bool, kit_NoneType_bool, kit_str_bool, kit_list_bool, kit_tuple_bool, kit_dict_bool, kit_int_list, kit_bool_list, kit_NoneType_list, kit_str_list, kit_list_list, kit_tuple_list, kit_dict_list, kit_int_tuple, kit_bool_tuple, kit_NoneType_tuple, kit_str_tuple, kit_list_tuple, kit_tuple_tuple, kit_dict_tuple, kit_int_str, kit_bool_str, kit_NoneType_str, kit_str_str, kit_list_str, kit_tuple_str, kit_dict_str, nc0, nc1, nc2, nc3, nc4, nc5, nc6, nc7, nc8, toDs_c, dEqB_dS0, fMin1, fMax1, toDs_append, ai, aj, atI2_0]) ?_
          refine mSeq_step (e1 := [some (.p (dS ps)), some (.p (dS qs)), some (tS out), some (.p (.int i)), some (.p (.int j)), some (.p (.int (if q.1 > p.1 then q.1 else p.1))), some (.p (.int (if q.2 < p.2 then q.2 else p.2)))]) (by simp only [mDef, env0, mSeq, mAsg, mAsgF, mAsgT, mB, mV, mC, mRet, mRetV, mIfS, asB, mCall, mCons, mNil, mConsT, mNilT, mL, mTup, mCB, mIf, mNot, mAnd, mOr, mTru, mAndV, mOrV, mNotV, mU, mChI, mO, mSl, mFrz, mBw, mBwB, mNext, frzE, iSeq, iRng1, iRng2, iRng3, iEnumD, iZipD, gN, gT, gC, gNl, mDrop, D.tru, dAdd, dSub, dMul, dMod, dFdiv, dPow, dII, dCmp, dNeg, dIs, dIsNot, D.isN, D.isB, fLen, fMax2, fMin2, T.toD, T.toDs, T.im, T.ims, D.im, D.ims, List.map_cons, List.map_nil, List.length_cons, List.length_nil, List.cons_append, List.nil_append, List.append_nil, List.replicate_zero, List.replicate_succ, List.getElem?_cons_zero, List.getElem?_cons_succ, List.set_cons_zero, List.set_cons_succ, Nat.reduceAdd, Nat.reduceSub, Nat.reduceLT, Nat.reduceLeDiff, Nat.zero_add, Nat.sub_self, Option.map_some, Option.map_none, if_true, if_false, decide_true, decide_false, Bool.and_true, Bool.true_and, Bool.false_and, Bool.and_false, Bool.not_true, Bool.not_false, reduceIte, reduceCtorEq, szl, Nat.zero_le, List.length_map, dEq, dNe, dIx, dSl, toDs_p, toDs_g, toDs_gi, toDs_gp, List.map_map, Int.reduceLT, Int.reduceLE, Int.reduceAdd, Int.reduceSub, decide_not, dEqB_nn, dEqB_ints0, dEqB_ints, dEqB_int, dEqB_bl, List.map_append, fIsi, D.tyN, Option.bind_some, fSum, fAny, fAll, ints_g, bls_g, D.ints_map, kit_int_int, kit_bool_int, kit_NoneType_int, kit_str_int, kit_list_int, kit_tuple_int, kit_dict_int, kit_int_bool, kit_bool_bool, kit_NoneType_bool, kit_str_bool, kit_list_bool, kit_tuple_bool, kit_dict_bool, kit_int_list, kit_bool_list, kit_NoneType_list, kit_str_list, kit_list_list, kit_tuple_list, kit_dict_list, kit_int_tuple, kit_bool_tuple, kit_NoneType_tuple, kit_str_tuple, kit_list_tuple, kit_tuple_tuple, kit_dict_tuple, kit_int_str, kit_bool_str, kit_NoneType_str, kit_str_str, kit_list_str, kit_tuple_str, kit_dict_str, nc0, nc1, nc2, nc3, nc4, nc5, nc6, nc7, nc8, toDs_c, dEqB_dS0, fMin1, fMax1, toDs_append, ai, aj, atI2_1]) ?_
          refine mSeq_step (s1 _ rfl) ?_
          simp only [mDef, env0, mSeq, mAsg, mAsgF, mAsgT, mB, mV, mC, mRet, mRetV, mIfS, asB, mCall, mCons, mNil, mConsT, mNilT, mL, mTup, mCB, mIf, mNot, mAnd, mOr, mTru, mAndV, mOrV, mNotV, mU, mChI, mO, mSl, mFrz, mBw, mBwB, mNext, frzE, iSeq, iRng1, iRng2, iRng3, iEnumD, iZipD, gN, gT, gC, gNl, mDrop, D.tru, dAdd, dSub, dMul, dMod, dFdiv, dPow, dII, dCmp, dNeg, dIs, dIsNot, D.isN, D.isB, fLen, fMax2, fMin2, T.toD, T.toDs, T.im, T.ims, D.im, D.ims, List.map_cons, List.map_nil, List.length_cons, List.length_nil, List.cons_append, List.nil_append, List.append_nil, List.replicate_zero, List.replicate_succ, List.getElem?_cons_zero, List.getElem?_cons_succ, List.set_cons_zero, List.set_cons_succ, Nat.reduceAdd, Nat.reduceSub, Nat.reduceLT, Nat.reduceLeDiff, Nat.zero_add, Nat.sub_self, Option.map_some, Option.map_none, if_true, if_false, decide_true, decide_false, Bool.and_true, Bool.true_and, Bool.false_and, Bool.and_false, Bool.not_true, Bool.not_false, reduceIte, reduceCtorEq, szl, Nat.zero_le, List.length_map, dEq, dNe, dIx, dSl, toDs_p, toDs_g, toDs_gi, toDs_gp, List.map_map, Int.reduceLT, Int.reduceLE, Int.reduceAdd, Int.reduceSub, decide_not, dEqB_nn, dEqB_ints0, dEqB_ints, dEqB_int, dEqB_bl, List.map_append, fIsi, D.tyN, Option.bind_some, fSum, fAny, fAll, ints_g, bls_g, D.ints_map, kit_int_int, kit_bool_int, kit_NoneType_int, kit_str_int, kit_list_int, kit_tuple_int, kit_dict_int, kit_int_bool, kit_bool_bool, kit_NoneType_bool, kit_str_bool, kit_list_bool, kit_tuple_bool, kit_dict_bool, kit_int_list, kit_bool_list, kit_NoneType_list, kit_str_list, kit_list_list, kit_tuple_list, kit_dict_list, kit_int_tuple, kit_bool_tuple, kit_NoneType_tuple, kit_str_tuple, kit_list_tuple, kit_tuple_tuple, kit_dict_tuple, kit_int_str, kit_bool_str, kit_NoneType_str, kit_str_str, kit_list_str, kit_tuple_str, kit_dict_str, nc0, nc1, nc2, nc3, nc4, nc5, nc6, nc7, nc8, toDs_c, dEqB_dS0, fMin1, fMax1, toDs_append, ai, aj, atI2_1, c3, mAug, dAddI, Int.natCast_add]
        · rw [← ho, dp, dq, ov_cons, if_pos c3, List.append_assoc]
      · refine ⟨[some (.p (dS ps)), some (.p (dS qs)), some (tS (out ++ cutP p q)), some (.p (.int i)), some (.p (.int (j + 1 : Nat))), some (.p (.int (if q.1 > p.1 then q.1 else p.1))), some (.p (.int (if q.2 < p.2 then q.2 else p.2)))], (ps.length - i) + (qs.length - (j + 1)), ?_, by omega, i, j + 1, out ++ cutP p q, _, _, rfl, hi, by omega, by rw [List.length_append]; omega, ?_, rfl⟩
        · refine mSeq_step (e1 := [some (.p (dS ps)), some (.p (dS qs)), some (tS out), some (.p (.int i)), some (.p (.int j)), some (.p (.int (if q.1 > p.1 then q.1 else p.1))), y]) (by simp only [mDef, env0, mSeq, mAsg, mAsgF, mAsgT, mB, mV, mC, mRet, mRetV, mIfS, asB, mCall, mCons, mNil, mConsT, mNilT, mL, mTup, mCB, mIf, mNot, mAnd, mOr, mTru, mAndV, mOrV, mNotV, mU, mChI, mO, mSl, mFrz, mBw, mBwB, mNext, frzE, iSeq, iRng1, iRng2, iRng3, iEnumD, iZipD, gN, gT, gC, gNl, mDrop, D.tru, dAdd, dSub, dMul, dMod, dFdiv, dPow, dII, dCmp, dNeg, dIs, dIsNot, D.isN, D.isB, fLen, fMax2, fMin2, T.toD, T.toDs, T.im, T.ims, D.im, D.ims, List.map_cons, List.map_nil, List.length_cons, List.length_nil, List.cons_append, List.nil_append, List.append_nil, List.replicate_zero, List.replicate_succ, List.getElem?_cons_zero, List.getElem?_cons_succ, List.set_cons_zero, List.set_cons_succ, Nat.reduceAdd, Nat.reduceSub, Nat.reduceLT, Nat.reduceLeDiff, Nat.zero_add, Nat.sub_self, Option.map_some, Option.map_none, if_true, if_false, decide_true, decide_false, Bool.and_true, Bool.true_and, Bool.false_and, Bool.and_false, Bool.not_true, Bool.not_false, reduceIte, reduceCtorEq, szl, Nat.zero_le, List.length_map, dEq, dNe, dIx, dSl, toDs_p, toDs_g, toDs_gi, toDs_gp, List.map_map, Int.reduceLT, Int.reduceLE, Int.reduceAdd, Int.reduceSub, decide_not, dEqB_nn, dEqB_ints0, dEqB_ints, dEqB_int, dEqB_bl, List.map_append, fIsi, D.tyN, Option.bind_some, fSum, fAny, fAll, ints_g, bls_g, D.ints_map, kit_int_int, kit_bool_int, kit_NoneType_int, kit_str_int, kit_list_int, kit_tuple_int, kit_dict_int, kit_int_bool, kit_bool_bool, kit_NoneType_bool, kit_str_bool, kit_list_bool, kit_tuple_bool, kit_dict_bool, kit_int_list, kit_bool_list, kit_NoneType_list, kit_str_list, kit_list_list, kit_tuple_list, kit_dict_list, kit_int_tuple, kit_bool_tuple, kit_NoneType_tuple, kit_str_tuple, kit_list_tuple, kit_tuple_tuple, kit_dict_tuple, kit_int_str, kit_bool_str, kit_NoneType_str, kit_str_str, kit_list_str, kit_tuple_str, kit_dict_str, nc0, nc1, nc2, nc3, nc4, nc5, nc6, nc7, nc8, toDs_c, dEqB_dS0, fMin1, fMax1, toDs_append, ai, aj, atI2_0]) ?_
          refine mSeq_step (e1 := [some (.p (dS ps)), some (.p (dS qs)), some (tS out), some (.p (.int i)), some (.p (.int j)), some (.p (.int (if q.1 > p.1 then q.1 else p.1))), some (.p (.int (if q.2 < p.2 then q.2 else p.2)))]) (by simp only [mDef, env0, mSeq, mAsg, mAsgF, mAsgT, mB, mV, mC, mRet, mRetV, mIfS, asB, mCall, mCons, mNil, mConsT, mNilT, mL, mTup, mCB, mIf, mNot, mAnd, mOr, mTru, mAndV, mOrV, mNotV, mU, mChI, mO, mSl, mFrz, mBw, mBwB, mNext, frzE, iSeq, iRng1, iRng2, iRng3, iEnumD, iZipD, gN, gT, gC, gNl, mDrop, D.tru, dAdd, dSub, dMul, dMod, dFdiv, dPow, dII, dCmp, dNeg, dIs, dIsNot, D.isN, D.isB, fLen, fMax2, fMin2, T.toD, T.toDs, T.im, T.ims, D.im, D.ims, List.map_cons, List.map_nil, List.length_cons, List.length_nil, List.cons_append, List.nil_append, List.append_nil, List.replicate_zero, List.replicate_succ, List.getElem?_cons_zero, List.getElem?_cons_succ, List.set_cons_zero, List.set_cons_succ, Nat.reduceAdd, Nat.reduceSub, Nat.reduceLT, Nat.reduceLeDiff, Nat.zero_add, Nat.sub_self, Option.map_some, Option.map_none, if_true, if_false, decide_true, decide_false, Bool.and_true, Bool.true_and, Bool.false_and, Bool.and_false, Bool.not_true, Bool.not_false, reduceIte, reduceCtorEq, szl, Nat.zero_le, List.length_map, dEq, dNe, dIx, dSl, toDs_p, toDs_g, toDs_gi, toDs_gp, List.map_map, Int.reduceLT, Int.reduceLE, Int.reduceAdd, Int.reduceSub, decide_not, dEqB_nn, dEqB_ints0, dEqB_ints, dEqB_int, dEqB_bl, List.map_append, fIsi, D.tyN, Option.bind_some, fSum, fAny, fAll, ints_g, bls_g, D.ints_map, kit_int_int, kit_bool_int, kit_NoneType_int, kit_str_int, kit_list_int, kit_tuple_int, kit_dict_int, kit_int_bool, kit_bool_bool, kit_NoneType_bool, kit_str_bool, kit_list_bool, kit_tuple_bool, kit_dict_bool, kit_int_list, kit_bool_list, kit_NoneType_list, kit_str_list, kit_list_list, kit_tuple_list, kit_dict_list, kit_int_tuple, kit_bool_tuple, kit_NoneType_tuple, kit_str_tuple, kit_list_tuple, kit_tuple_tuple, kit_dict_tuple, kit_int_str, kit_bool_str, kit_NoneType_str, kit_str_str, kit_list_str, kit_tuple_str, kit_dict_str, nc0, nc1, nc2, nc3, nc4, nc5, nc6, nc7, nc8, toDs_c, dEqB_dS0, fMin1, fMax1, toDs_append, ai, aj, atI2_1]) ?_
          refine mSeq_step (s1 _ rfl) ?_
          simp only [mDef, env0, mSeq, mAsg, mAsgF, mAsgT, mB, mV, mC, mRet, mRetV, mIfS, asB, mCall, mCons, mNil, mConsT, mNilT, mL, mTup, mCB, mIf, mNot, mAnd, mOr, mTru, mAndV, mOrV, mNotV, mU, mChI, mO, mSl, mFrz, mBw, mBwB, mNext, frzE, iSeq, iRng1, iRng2, iRng3, iEnumD, iZipD, gN, gT, gC, gNl, mDrop, D.tru, dAdd, dSub, dMul, dMod, dFdiv, dPow, dII, dCmp, dNeg, dIs, dIsNot, D.isN, D.isB, fLen, fMax2, fMin2, T.toD, T.toDs, T.im, T.ims, D.im, D.ims, List.map_cons, List.map_nil, List.length_cons, List.length_nil, List.cons_append, List.nil_append, List.append_nil, List.replicate_zero, List.replicate_succ, List.getElem?_cons_zero, List.getElem?_cons_succ, List.set_cons_zero, List.set_cons_succ, Nat.reduceAdd, Nat.reduceSub, Nat.reduceLT, Nat.reduceLeDiff, Nat.zero_add, Nat.sub_self, Option.map_some, Option.map_none, if_true, if_false, decide_true, decide_false, Bool.and_true, Bool.true_and, Bool.false_and, Bool.and_false, Bool.not_true, Bool.not_false, reduceIte, reduceCtorEq, szl, Nat.zero_le, List.length_map, dEq, dNe, dIx, dSl, toDs_p, toDs_g, toDs_gi, toDs_gp, List.map_map, Int.reduceLT, Int.reduceLE, Int.reduceAdd, Int.reduceSub, decide_not, dEqB_nn, dEqB_ints0, dEqB_ints, dEqB_int, dEqB_bl, List.map_append, fIsi, D.tyN, Option.bind_some, fSum, fAny, fAll, ints_g, bls_g, D.ints_map, kit_int_int, kit_bool_int, kit_NoneType_int, kit_str_int, kit_list_int, kit_tuple_int, kit_dict_int, kit_int_bool, kit_bool_bool, kit_NoneType_bool, kit_str_bool, kit_list_bool, kit_tuple_bool, kit_dict_bool, kit_int_list, kit_bool_list, kit_NoneType_list, kit_str_list, kit_list_list, kit_tuple_list, kit_dict_list, kit_int_tuple, kit_bool_tuple, kit_NoneType_tuple, kit_str_tuple, kit_list_tuple, kit_tuple_tuple, kit_dict_tuple, kit_int_str, kit_bool_str, kit_NoneType_str, kit_str_str, kit_list_str, kit_tuple_str, kit_dict_str, nc0, nc1, nc2, nc3, nc4, nc5, nc6, nc7, nc8, toDs_c, dEqB_dS0, fMin1, fMax1, toDs_append, ai, aj, atI2_1, c3, mAug, dAddI, Int.natCast_add]
        · rw [← ho, dp, dq, ov_cons, if_neg c3, List.append_assoc]
    · have j1 : ¬ (j : Int) < (qs.length : Int) := by omega
      refine .inl ⟨by simp only [mDef, env0, mSeq, mAsg, mAsgF, mAsgT, mB, mV, mC, mRet, mRetV, mIfS, asB, mCall, mCons, mNil, mConsT, mNilT, mL, mTup, mCB, mIf, mNot, mAnd, mOr, mTru, mAndV, mOrV, mNotV, mU, mChI, mO, mSl, mFrz, mBw, mBwB, mNext, frzE, iSeq, iRng1, iRng2, iRng3, iEnumD, iZipD, gN, gT, gC, gNl, mDrop, D.tru, dAdd, dSub, dMul, dMod, dFdiv, dPow, dII, dCmp, dNeg, dIs, dIsNot, D.isN, D.isB, fLen, fMax2, fMin2, T.toD, T.toDs, T.im, T.ims, D.im, D.ims, List.map_cons, List.map_nil, List.length_cons, List.length_nil, List.cons_append, List.nil_append, List.append_nil, List.replicate_zero, List.replicate_succ, List.getElem?_cons_zero, List.getElem?_cons_succ, List.set_cons_zero, List.set_cons_succ, Nat.reduceAdd, Nat.reduceSub, Nat.reduceLT, Nat.reduceLeDiff, Nat.zero_add, Nat.sub_self, Option.map_some, Option.map_none, if_true, if_false, decide_true, decide_false, Bool.and_true, Bool.true_and, Bool.false_and, Bool.and_false, Bool.not_true, Bool.not_false, reduceIte, reduceCtorEq, szl, Nat.zero_le, List.length_map, dEq, dNe, dIx, dSl, toDs_p, toDs_g, toDs_gi, toDs_gp, List.map_map, Int.reduceLT, Int.reduceLE, Int.reduceAdd, Int.reduceSub, decide_not, dEqB_nn, dEqB_ints0, dEqB_ints, dEqB_int, dEqB_bl, List.map_append, fIsi, D.tyN, Option.bind_some, fSum, fAny, fAll, ints_g, bls_g, D.ints_map, kit_int_int, kit_bool_int, kit_NoneType_int, kit_str_int, kit_list_int, kit_tuple_int, kit_dict_int, kit_int_bool, kit_bool_bool, kit_NoneType_bool, kit_str_bool, kit_list_bool, kit_tuple_bool, kit_dict_bool, kit_int_list, kit_bool_list, kit_NoneType_list, kit_str_list, kit_list_list, kit_tuple_list, kit_dict_list, kit_int_tuple, kit_bool_tuple, kit_NoneType_tuple, kit_str_tuple, kit_list_tuple, kit_tuple_tuple, kit_dict_tuple, kit_int_str, kit_bool_str, kit_NoneType_str, kit_str_str, kit_list_str, kit_tuple_str, kit_dict_str, nc0, nc1, nc2, nc3, nc4, nc5, nc6, nc7, nc8, toDs_c, dEqB_dS0, fMin1, fMax1, toDs_append, i1, j1], .inl ⟨_, rfl, ?_⟩⟩
      have : qs.drop j = [] := List.drop_eq_nil_of_le (by omega)
      rw [this, ov_nil_right, List.append_nil] at ho
      rw [ho]
      simp only [mDef, env0, mSeq, mAsg, mAsgF, mAsgT, mB, mV, mC, mRet, mRetV, mIfS, asB, mCall, mCons, mNil, mConsT, mNilT, mL, mTup, mCB, mIf, mNot, mAnd, mOr, mTru, mAndV, mOrV, mNotV, mU, mChI, mO, mSl, mFrz, mBw, mBwB, mNext, frzE, iSeq, iRng1, iRng2, iRng3, iEnumD, iZipD, gN, gT, gC, gNl, mDrop, D.tru, dAdd, dSub, dMul, dMod, dFdiv, dPow, dII, dCmp, dNeg, dIs, dIsNot, D.isN, D.isB, fLen, fMax2, fMin2, T.toD, T.toDs, T.im, T.ims, D.im, D.ims, List.map_cons, List.map_nil, List.length_cons, List.length_nil, List.cons_append, List.nil_append, List.append_nil, List.replicate_zero, List.replicate_succ, List.getElem?_cons_zero, List.getElem?_cons_succ, List.set_cons_zero, List.set_cons_succ, Nat.reduceAdd, Nat.reduceSub, Nat.reduceLT, Nat.reduceLeDiff, Nat.zero_add, Nat.sub_self, Option.map_some, Option.map_none, if_true, if_false, decide_true, decide_false, Bool.and_true, Bool.true_and, Bool.false_and, Bool.and_false, Bool.not_true, Bool.not_false, reduceIte, reduceCtorEq, szl, Nat.zero_le, List.length_map, dEq, dNe, dIx, dSl, toDs_p, toDs_g, toDs_gi, toDs_gp, List.map_map, Int.reduceLT, Int.reduceLE, Int.reduceAdd, Int.reduceSub, decide_not, dEqB_nn, dEqB_ints0, dEqB_ints, dEqB_int, dEqB_bl, List.map_append, fIsi, D.tyN, Option.bind_some, fSum, fAny, fAll, ints_g, bls_g, D.ints_map, kit_int_int, kit_bool_int, kit_NoneType_int, kit_str_int, kit_list_int, kit_tuple_int, kit_dict_int, kit_int_bool, kit_bool_bool, kit_NoneType_bool, kit_str_bool, kit_list_bool, kit_tuple_bool, kit_dict_bool, kit_int_list, kit_bool_list, kit_NoneType_list, kit_str_list, kit_list_list, kit_tuple_list, kit_dict_list, kit_int_tuple, kit_bool_tuple, kit_NoneType_tuple, kit_str_tuple, kit_list_tuple, kit_tuple_tuple, kit_dict_tuple, kit_int_str, kit_bool_str, kit_NoneType_str, kit_str_str, kit_list_str, kit_tuple_str, kit_dict_str, nc0, nc1, nc2, nc3, nc4, nc5, nc6, nc7, nc8, toDs_c, dEqB_dS0, fMin1, fMax1, toDs_append]
  · have i1 : ¬ (i : Int) < (ps.length : Int) := by omega
    refine .inl ⟨by simp only [mDef, env0, mSeq, mAsg, mAsgF, mAsgT, mB, mV, mC, mRet, mRetV, mIfS, asB, mCall, mCons, mNil, mConsT, mNilT, mL, mTup, mCB, mIf, mNot, mAnd, mOr, mTru, mAndV, mOrV, mNotV, mU, mChI, mO, mSl, mFrz, mBw, mBwB, mNext, frzE, iSeq, iRng1, iRng2, iRng3, iEnumD, iZipD, gN, gT, gC, gNl, mDrop, D.tru, dAdd, dSub, dMul, dMod, dFdiv, dPow, dII, dCmp, dNeg, dIs, dIsNot, D.isN, D.isB, fLen, fMax2, fMin2, T.toD, T.toDs, T.im, T.ims, D.im, D.ims, List.map_cons, List.map_nil, List.length_cons, List.length_nil, List.cons_append, List.nil_append, List.append_nil, List.replicate_zero, List.replicate_succ, List.getElem?_cons_zero, List.getElem?_cons_succ, List.set_cons_zero, List.set_cons_succ, Nat.reduceAdd, Nat.reduceSub, Nat.reduceLT, Nat.reduceLeDiff, Nat.zero_add, Nat.sub_self, Option.map_some, Option.map_none, if_true, if_false, decide_true, decide_false, Bool.and_true, Bool.true_and, Bool.false_and, Bool.and_false, Bool.not_true, Bool.not_false, reduceIte, reduceCtorEq, szl, Nat.zero_le, List.length_map, dEq, dNe, dIx, dSl, toDs_p, toDs_g, toDs_gi, toDs_gp, List.map_map, Int.reduceLT, Int.reduceLE, Int.reduceAdd, Int.reduceSub, decide_not, dEqB_nn, dEqB_ints0, dEqB_ints, dEqB_int, dEqB_bl, List.map_append, fIsi, D.tyN, Option.bind_some, fSum, fAny, fAll, ints_g, bls_g, D.ints_map, kit_int_int, kit_bool_int, kit_NoneType_int, kit_str_int, kit_list_int, kit_tuple_int, kit_dict_int, kit_int_bool, kit_bool_bool, kit_NoneType_bool, kit_str_bool, kit_list_bool, kit_tuple_bool, kit_dict_bool, kit_int_list, kit_bool_list, kit_NoneType_list, kit_str_list, kit_list_list, kit_tuple_list, kit_dict_list, kit_int_tuple, kit_bool_tuple, kit_NoneType_tuple, kit_str_tuple, kit_list_tuple, kit_tuple_tuple, kit_dict_tuple, kit_int_str, kit_bool_str, kit_NoneType_str, kit_str_str, kit_list_str, kit_tuple_str, kit_dict_str, nc0, nc1, nc2, nc3, nc4, nc5, nc6, nc7, nc8, toDs_c, dEqB_dS0, fMin1, fMax1, toDs_append, i1], .inl ⟨_, rfl, ?_⟩⟩
    have : ps.drop i = [] := List.drop_eq_nil_of_le (by omega)
    rw [this, ov_nil_left, List.append_nil] at ho
    rw [ho]
    simp only [mDef, env0, mSeq, mAsg, mAsgF, mAsgT, mB, mV, mC, mRet, mRetV, mIfS, asB, mCall, mCons, mNil, mConsT, mNilT, mL, mTup, mCB, mIf, mNot, mAnd, mOr, mTru, mAndV, mOrV, mNotV, mU, mChI, mO, mSl, mFrz, mBw, mBwB, mNext, frzE, iSeq, iRng1, iRng2, iRng3, iEnumD, iZipD, gN, gT, gC, gNl, mDrop, D.tru, dAdd, dSub, dMul, dMod, dFdiv, dPow, dII, dCmp, dNeg, dIs, dIsNot, D.isN, D.isB, fLen, fMax2, fMin2, T.toD, T.toDs, T.im, T.ims, D.im, D.ims, List.map_cons, List.map_nil, List.length_cons, List.length_nil, List.cons_append, List.nil_append, List.append_nil, List.replicate_zero, List.replicate_succ, List.getElem?_cons_zero, List.getElem?_cons_succ, List.set_cons_zero, List.set_cons_succ, Nat.reduceAdd, Nat.reduceSub, Nat.reduceLT, Nat.reduceLeDiff, Nat.zero_add, Nat.sub_self, Option.map_some, Option.map_none, if_true, if_false, decide_true, decide_false, Bool.and_true, Bool.true_and, Bool.false_and, Bool.and_false, Bool.not_true, Bool.not_false, reduceIte, reduceCtorEq, szl, Nat.zero_le, List.length_map, dEq, dNe, dIx, dSl, toDs_p, toDs_g, toDs_gi, toDs_gp, List.map_map, Int.reduceLT, Int.reduceLE, Int.reduceAdd, Int.reduceSub, decide_not, dEqB_nn, dEqB_ints0, dEqB_ints, dEqB_int, dEqB_bl, List.map_append, fIsi, D.tyN, Option.bind_some, fSum, fAny, fAll, ints_g, bls_g, D.ints_map, kit_int_int, kit_bool_int, kit_NoneType_int, kit_str_int, kit_list_int, kit_tuple_int, kit_dict_int, kit_int_bool, kit_bool_bool, kit_NoneType_bool, kit_str_bool, kit_list_bool, kit_tuple_bool, kit_dict_bool, kit_int_list, kit_bool_list, kit_NoneType_list, kit_str_list, kit_list_list, kit_tuple_list, kit_dict_list, kit_int_tuple, kit_bool_tuple, kit_NoneType_tuple, kit_str_tuple, kit_list_tuple, kit_tuple_tuple, kit_dict_tuple, kit_int_str, kit_bool_str, kit_NoneType_str, kit_str_str, kit_list_str, kit_tuple_str, kit_dict_str, nc0, nc1, nc2, nc3, nc4, nc5, nc6, nc7, nc8, toDs_c, dEqB_dS0, fMin1, fMax1, toDs_append]
abbrev HGaps (f : List D → RE) : Prop := ∀ (ps : List (Int × Int)) (a b : Int), ps.length ≤ 100000 → ∃ t, f [dS ps, .int a, .int b] = .ok t ∧ t.toD = dS (gp a ps b)
theorem g_gaps : HGaps G_gaps := by
  intro ps a b h
  refine ⟨.l ((gp a ps b).map fun p => T.p (dP p)), ?_, by simp only [T.toD, toDs_gp]⟩
  unfold G_gaps
  apply mDef_rt
  have h1 : 1 + ps.length ≤ 16777216 := by omega
  have h2 : ps.length + 1 ≤ 16777216 := by omega
  have l1 : mLc [5, 6] (iSeq (mV 0)) (gT 2 (gC (gN 5) (gC (gN 6) gNl))) (fun _ => RB.ok true) (mV 6) [some (.p (dS ps)), some (.p (.int a)), some (.p (.int b)), none, none, none, none, none] = .ok (.l (ps.map fun p => .p (.int p.2))) := by
    refine mLc_all ps dP (fun p => .p (.int p.2)) (by simp only [mDef, env0, mSeq, mAsg, mAsgF, mAsgT, mB, mV, mC, mRet, mRetV, mIfS, asB, mCall, mCons, mNil, mConsT, mNilT, mL, mTup, mCB, mIf, mNot, mAnd, mOr, mTru, mAndV, mOrV, mNotV, mU, mChI, mO, mSl, mFrz, mBw, mBwB, mNext, frzE, iSeq, iRng1, iRng2, iRng3, iEnumD, iZipD, gN, gT, gC, gNl, mDrop, D.tru, dAdd, dSub, dMul, dMod, dFdiv, dPow, dII, dCmp, dNeg, dIs, dIsNot, D.isN, D.isB, fLen, fMax2, fMin2, T.toD, T.toDs, T.im, T.ims, D.im, D.ims, List.map_cons, List.map_nil, List.length_cons, List.length_nil, List.cons_append, List.nil_append, List.append_nil, List.replicate_zero, List.replicate_succ, List.getElem?_cons_zero, List.getElem?_cons_succ, List.set_cons_zero, List.set_cons_succ, Nat.reduceAdd, Nat.reduceSub, Nat.reduceLT, Nat.reduceLeDiff, Nat.zero_add, Nat.sub_self, Option.map_some, Option.map_none, if_true, if_false, decide_true, decide_false, Bool.and_true, Bool.true_and, Bool.false_and, Bool.and_false, Bool.not_true, Bool.not_false, reduceIte, reduceCtorEq, szl, Nat.zero_le, List.length_map, dEq, dNe, dIx, dSl, toDs_p, toDs_g, toDs_gi, toDs_gp, List.map_map, Int.reduceLT, Int.reduceLE, Int.reduceAdd, Int.reduceSub, decide_not, dEqB_nn, dEqB_ints0, dEqB_ints, dEqB_int, dEqB_bl, List.map_append, fIsi, D.tyN, Option.bind_some, fSum, fAny, fAll, ints_g, bls_g, D.ints_map, kit_int_int, kit_bool_int, kit_NoneType_int, kit_str_int, kit_list_int, kit_tuple_int, kit_dict_int, kit_int_bool, kit_bool_bool, kit_NoneType_bool, kit_str_bool, kit_list_bool, kit_tuple_bool, kit_dict_bool, kit_int_list, kit_bool_list, kit_NoneType_list, kit_str_list, kit_list_list, kit_tuple_list, kit_dict_list, kit_int_tuple, kit_bool_tuple, kit_NoneType_tuple, kit_str_tuple, kit_list_tuple, kit_tuple_tuple, kit_dict_tuple, kit_int_str, kit_bool_str, kit_NoneType_str, kit_str_str, kit_list_str, kit_tuple_str, kit_dict_str, nc0, nc1, nc2, nc3, nc4, nc5, nc6, nc7, nc8, toDs_c, dEqB_dS0, fMin1, fMax1, toDs_append]) (by rw [szl]; omega) ?_
    rintro ⟨x, y⟩ hx
    refine ⟨[some (.p (dS ps)), some (.p (.int a)), some (.p (.int b)), none, none, some (.p (.int x)), some (.p (.int y)), none], by simp only [mDef, env0, mSeq, mAsg, mAsgF, mAsgT, mB, mV, mC, mRet, mRetV, mIfS, asB, mCall, mCons, mNil, mConsT, mNilT, mL, mTup, mCB, mIf, mNot, mAnd, mOr, mTru, mAndV, mOrV, mNotV, mU, mChI, mO, mSl, mFrz, mBw, mBwB, mNext, frzE, iSeq, iRng1, iRng2, iRng3, iEnumD, iZipD, gN, gT, gC, gNl, mDrop, D.tru, dAdd, dSub, dMul, dMod, dFdiv, dPow, dII, dCmp, dNeg, dIs, dIsNot, D.isN, D.isB, fLen, fMax2, fMin2, T.toD, T.toDs, T.im, T.ims, D.im, D.ims, List.map_cons, List.map_nil, List.length_cons, List.length_nil, List.cons_append, List.nil_append, List.append_nil, List.replicate_zero, List.replicate_succ, List.getElem?_cons_zero, List.getElem?_cons_succ, List.set_cons_zero, List.set_cons_succ, Nat.reduceAdd, Nat.reduceSub, Nat.reduceLT, Nat.reduceLeDiff, Nat.zero_add, Nat.sub_self, Option.map_some, Option.map_none, if_true, if_false, decide_true, decide_false, Bool.and_true, Bool.true_and, Bool.false_and, Bool.and_false, Bool.not_true, Bool.not_false, reduceIte, reduceCtorEq, szl, Nat.zero_le, List.length_map, dEq, dNe, dIx, dSl, toDs_p, toDs_g, toDs_gi, toDs_gp, List.map_map, Int.reduceLT, Int.reduceLE, Int.reduceAdd, Int.reduceSub, decide_not, dEqB_nn, dEqB_ints0, dEqB_ints, dEqB_int, dEqB_bl, List.map_append, fIsi, D.tyN, Option.bind_some, fSum, fAny, fAll, ints_g, bls_g, D.ints_map, kit_int_int, kit_bool_int, kit_NoneType_int, kit_str_int, kit_list_int, kit_tuple_int, kit_dict_int, kit_int_bool, kit_bool_bool, kit_NoneType_bool, kit_str_bool, kit_list_bool, kit_tuple_bool, kit_dict_bool, kit_int_list, kit_bool_list, kit_NoneType_list, kit_str_list, kit_list_list, kit_tuple_list, kit_dict_list, kit_int_tuple, kit_bool_tuple, kit_NoneType_tuple, kit_str_tuple, kit_list_tuple, kit_tuple_tuple, kit_dict_tuple, kit_int_str, kit_bool_str, kit_NoneType_str, kit_str_str, kit_list_str, kit_tuple_str, kit_dict_str, nc0, nc1, nc2, nc3, nc4, nc5, nc6, nc7, nc8, toDs_c, dEqB_dS0, fMin1, fMax1, toDs_append, wipeE], rfl, by simp only [mDef, env0, mSeq, mAsg, mAsgF, mAsgT, mB, mV, mC, mRet, mRetV, mIfS, asB, mCall, mCons, mNil, mConsT, mNilT, mL, mTup, mCB, mIf, mNot, mAnd, mOr, mTru, mAndV, mOrV, mNotV, mU, mChI, mO, mSl, mFrz, mBw, mBwB, mNext, frzE, iSeq, iRng1, iRng2, iRng3, iEnumD, iZipD, gN, gT, gC, gNl, mDrop, D.tru, dAdd, dSub, dMul, dMod, dFdiv, dPow, dII, dCmp, dNeg, dIs, dIsNot, D.isN, D.isB, fLen, fMax2, fMin2, T.toD, T.toDs, T.im, T.ims, D.im, D.ims, List.map_cons, List.map_nil, List.length_cons, List.length_nil, List.cons_append, List.nil_append, List.append_nil, List.replicate_zero, List.replicate_succ, List.getElem?_cons_zero, List.getElem?_cons_succ, List.set_cons_zero, List.set_cons_succ, Nat.reduceAdd, Nat.reduceSub, Nat.reduceLT, Nat.reduceLeDiff, Nat.zero_add, Nat.sub_self, Option.map_some, Option.map_none, if_true, if_false, decide_true, decide_false, Bool.and_true, Bool.true_and, Bool.false_and, Bool.and_false, Bool.not_true, Bool.not_false, reduceIte, reduceCtorEq, szl, Nat.zero_le, List.length_map, dEq, dNe, dIx, dSl, toDs_p, toDs_g, toDs_gi, toDs_gp, List.map_map, Int.reduceLT, Int.reduceLE, Int.reduceAdd, Int.reduceSub, decide_not, dEqB_nn, dEqB_ints0, dEqB_ints, dEqB_int, dEqB_bl, List.map_append, fIsi, D.tyN, Option.bind_some, fSum, fAny, fAll, ints_g, bls_g, D.ints_map, kit_int_int, kit_bool_int, kit_NoneType_int, kit_str_int, kit_list_int, kit_tuple_int, kit_dict_int, kit_int_bool, kit_bool_bool, kit_NoneType_bool, kit_str_bool, kit_list_bool, kit_tuple_bool, kit_dict_bool, kit_int_list, kit_bool_list, kit_NoneType_list, kit_str_list, kit_list_list, kit_tuple_list, kit_dict_list, kit_int_tuple, kit_bool_tuple, kit_NoneType_tuple, kit_str_tuple, kit_list_tuple, kit_tuple_tuple, kit_dict_tuple, kit_int_str, kit_bool_str, kit_NoneType_str, kit_str_str, kit_list_str, kit_tuple_str, kit_dict_str, nc0, nc1, nc2, nc3, nc4, nc5, nc6, nc7, nc8, toDs_c, dEqB_dS0, fMin1, fMax1, toDs_append]⟩
  refine mSeq_step (e1 := [some (.p (dS ps)), some (.p (.int a)), some (.p (.int b)), some (.p (.lst (.int a :: ps.map fun p => .int p.2))), none, none, none, none]) ?_ ?_
  · have hd : (T.l (ps.map fun p => T.p (.int p.2))).toD = .lst (ps.map fun p => D.int p.2) := by rw [T.toD, toDs_map, List.map_map]; rfl
    have e0 : env0 8 [dS ps, .int a, .int b] = [some (.p (dS ps)), some (.p (.int a)), some (.p (.int b)), none, none, none, none, none] := rfl
    rw [e0]
    generalize mLc [5, 6] (iSeq (mV 0)) (gT 2 (gC (gN 5) (gC (gN 6) gNl))) (fun _ => RB.ok true) (mV 6) = ml at *
    have e1 : mB dAdd (mL (mConsT (mV 1) mNilT)) ml [some (.p (dS ps)), some (.p (.int a)), some (.p (.int b)), none, none, none, none, none] = .ok (.l ((D.int a :: ps.map fun p => D.int p.2).map T.p)) := by
      have e2 : mL (mConsT (mV 1) mNilT) [some (.p (dS ps)), some (.p (.int a)), some (.p (.int b)), none, none, none, none, none] = .ok (.l [.p (.int a)]) := by simp only [mDef, env0, mSeq, mAsg, mAsgF, mAsgT, mB, mV, mC, mRet, mRetV, mIfS, asB, mCall, mCons, mNil, mConsT, mNilT, mL, mTup, mCB, mIf, mNot, mAnd, mOr, mTru, mAndV, mOrV, mNotV, mU, mChI, mO, mSl, mFrz, mBw, mBwB, mNext, frzE, iSeq, iRng1, iRng2, iRng3, iEnumD, iZipD, gN, gT, gC, gNl, mDrop, D.tru, dAdd, dSub, dMul, dMod, dFdiv, dPow, dII, dCmp, dNeg, dIs, dIsNot, D.isN, D.isB, fLen, fMax2, fMin2, T.toD, T.toDs, T.im, T.ims, D.im, D.ims, List.map_cons, List.map_nil, List.length_cons, List.length_nil, List.cons_append, List.nil_append, List.append_nil, List.replicate_zero, List.replicate_succ, List.getElem?_cons_zero, List.getElem?_cons_succ, List.set_cons_zero, List.set_cons_succ, Nat.reduceAdd, Nat.reduceSub, Nat.reduceLT, Nat.reduceLeDiff, Nat.zero_add, Nat.sub_self, Option.map_some, Option.map_none, if_true, if_false, decide_true, decide_false, Bool.and_true, Bool.true_and, Bool.false_and, Bool.and_false, Bool.not_true, Bool.not_false, reduceIte, reduceCtorEq, szl, Nat.zero_le, List.length_map, dEq, dNe, dIx, dSl, toDs_p, toDs_g, toDs_gi, toDs_gp, List.map_map, Int.reduceLT, Int.reduceLE, Int.reduceAdd, Int.reduceSub, decide_not, dEqB_nn, dEqB_ints0, dEqB_ints, dEqB_int, dEqB_bl, List.map_append, fIsi, D.tyN, Option.bind_some, fSum, fAny, fAll, ints_g, bls_g, D.ints_map, kit_int_int, kit_bool_int, kit_NoneType_int, kit_str_int, kit_list_int, kit_tuple_int, kit_dict_int, kit_int_bool, kit_bool_bool, kit_NoneType_bool, kit_str_bool, kit_list_bool, kit_tuple_bool, kit_dict_bool, kit_int_list, kit_bool_list, kit_NoneType_list, kit_str_list, kit_list_list, kit_tuple_list, kit_dict_list, kit_int_tuple, kit_bool_tuple, kit_NoneType_tuple, kit_str_tuple, kit_list_tuple, kit_tuple_tuple, kit_dict_tuple, kit_int_str, kit_bool_str, kit_NoneType_str, kit_str_str, kit_list_str, kit_tuple_str, kit_dict_str, nc0, nc1, nc2, nc3, nc4, nc5, nc6, nc7, nc8, toDs_c, dEqB_dS0, fMin1, fMax1, toDs_append]
      unfold mB
      rw [e2, l1]
      simp only [hd]
      have e3 : (T.l [.p (.int a)]).toD = .lst [.int a] := by simp only [T.toD, T.toDs]
      rw [e3]
      unfold dAdd
      simp only [List.length_cons, List.length_nil, List.length_map]
      rw [if_pos (by rw [szl]; omega)]
      rfl
    unfold mAsgF
    rw [e1]
    simp only [T.toD, toDs_p]
    rfl
  have l2 : mLc [7, 5] (iSeq (mV 0)) (gT 2 (gC (gN 7) (gC (gN 5) gNl))) (fun _ => RB.ok true) (mV 7) [some (.p (dS ps)), some (.p (.int a)), some (.p (.int b)), some (.p (.lst (.int a :: ps.map fun p => .int p.2))), none, none, none, none] = .ok (.l (ps.map fun p => .p (.int p.1))) := by
    refine mLc_all ps dP (fun p => .p (.int p.1)) (by simp only [mDef, env0, mSeq, mAsg, mAsgF, mAsgT, mB, mV, mC, mRet, mRetV, mIfS, asB, mCall, mCons, mNil, mConsT, mNilT, mL, mTup, mCB, mIf, mNot, mAnd, mOr, mTru, mAndV, mOrV, mNotV, mU, mChI, mO, mSl, mFrz, mBw, mBwB, mNext, frzE, iSeq, iRng1, iRng2, iRng3, iEnumD, iZipD, gN, gT, gC, gNl, mDrop, D.tru, dAdd, dSub, dMul, dMod, dFdiv, dPow, dII, dCmp, dNeg, dIs, dIsNot, D.isN, D.isB, fLen, fMax2, fMin2, T.toD, T.toDs, T.im, T.ims, D.im, D.ims, List.map_cons, List.map_nil, List.length_cons, List.length_nil, List.cons_append, List.nil_append, List.append_nil, List.replicate_zero, List.replicate_succ, List.getElem?_cons_zero, List.getElem?_cons_succ, List.set_cons_zero, List.set_cons_succ, Nat.reduceAdd, Nat.reduceSub, Nat.reduceLT, Nat.reduceLeDiff, Nat.zero_add, Nat.sub_self, Option.map_some, Option.map_none, if_true, if_false, decide_true, decide_false, Bool.and_true, Bool.true_and, Bool.false_and, Bool.and_false, Bool.not_true, Bool.not_false, reduceIte, reduceCtorEq, szl, Nat.zero_le, List.length_map, dEq, dNe, dIx, dSl, toDs_p, toDs_g, toDs_gi, toDs_gp, List.map_map, Int.reduceLT, Int.reduceLE, Int.reduceAdd, Int.reduceSub, decide_not, dEqB_nn, dEqB_ints0, dEqB_ints, dEqB_int, dEqB_bl, List.map_append, fIsi, D.tyN, Option.bind_some, fSum, fAny, fAll, ints_g, bls_g, D.ints_map, kit_int_int, kit_bool_int, kit_NoneType_int, kit_str_int, kit_list_int, kit_tuple_int, kit_dict_int, kit_int_bool, kit_bool_bool, kit_NoneType_bool, kit_str_bool, kit_list_bool, kit_tuple_bool, kit_dict_bool, kit_int_list, kit_bool_list, kit_NoneType_list, kit_str_list, kit_list_list, kit_tuple_list, kit_dict_list, kit_int_tuple, kit_bool_tuple, kit_NoneType_tuple, kit_str_tuple, kit_list_tuple, kit_tuple_tuple, kit_dict_tuple, kit_int_str, kit_bool_str, kit_NoneType_str, kit_str_str, kit_list_str, kit_tuple_str, kit_dict_str, nc0, nc1, nc2, nc3, nc4, nc5, nc6, nc7, nc8, toDs_c, dEqB_dS0, fMin1, fMax1, toDs_append]) (by rw [szl]; omega) ?_
    rintro ⟨x, y⟩ hx
    refine ⟨[some (.p (dS ps)), some (.p (.int a)), some (.p (.int b)), some (.p (.lst (.int a :: ps.map fun p => .int p.2))), none, some (.p (.int y)), none, some (.p (.int x))], by simp only [mDef, env0, mSeq, mAsg, mAsgF, mAsgT, mB, mV, mC, mRet, mRetV, mIfS, asB, mCall, mCons, mNil, mConsT, mNilT, mL, mTup, mCB, mIf, mNot, mAnd, mOr, mTru, mAndV, mOrV, mNotV, mU, mChI, mO, mSl, mFrz, mBw, mBwB, mNext, frzE, iSeq, iRng1, iRng2, iRng3, iEnumD, iZipD, gN, gT, gC, gNl, mDrop, D.tru, dAdd, dSub, dMul, dMod, dFdiv, dPow, dII, dCmp, dNeg, dIs, dIsNot, D.isN, D.isB, fLen, fMax2, fMin2, T.toD, T.toDs, T.im, T.ims, D.im, D.ims, List.map_cons, List.map_nil, List.length_cons, List.length_nil, List.cons_append, List.nil_append, List.append_nil, List.replicate_zero, List.replicate_succ, List.getElem?_cons_zero, List.getElem?_cons_succ, List.set_cons_zero, List.set_cons_succ, Nat.reduceAdd, Nat.reduceSub, Nat.reduceLT, Nat.reduceLeDiff, Nat.zero_add, Nat.sub_self, Option.map_some, Option.map_none, if_true, if_false, decide_true, decide_false, Bool.and_true, Bool.true_and, Bool.false_and, Bool.and_false, Bool.not_true, Bool.not_false, reduceIte, reduceCtorEq, szl, Nat.zero_le, List.length_map, dEq, dNe, dIx, dSl, toDs_p, toDs_g, toDs_gi, toDs_gp, List.map_map, Int.reduceLT, Int.reduceLE, Int.reduceAdd, Int.reduceSub, decide_not, dEqB_nn, dEqB_ints0, dEqB_ints, dEqB_int, dEqB_bl, List.map_append, fIsi, D.tyN, Option.bind_some, fSum, fAny, fAll, ints_g, bls_g, D.ints_map, kit_int_int, kit_bool_int, kit_NoneType_int, kit_str_int, kit_list_int, kit_tuple_int, kit_dict_int, kit_int_bool, kit_bool_bool, kit_NoneType_bool, kit_str_bool, kit_list_bool, kit_tuple_bool, kit_dict_bool, kit_int_list, kit_bool_list, kit_NoneType_list, kit_str_list, kit_list_list, kit_tuple_list, kit_dict_list, kit_int_tuple, kit_bool_tuple, kit_NoneType_tuple, kit_str_tuple, kit_list_tuple, kit_tuple_tuple, kit_dict_tuple, kit_int_str, kit_bool_str, kit_NoneType_str, kit_str_str, kit_list_str, kit_tuple_str, kit_dict_str, nc0, nc1, nc2, nc3, nc4, nc5, nc6, nc7, nc8, toDs_c, dEqB_dS0, fMin1, fMax1, toDs_append, wipeE], rfl, by simp only [mDef, env0, mSeq, mAsg, mAsgF, mAsgT, mB, mV, mC, mRet, mRetV, mIfS, asB, mCall, mCons, mNil, mConsT, mNilT, mL, mTup, mCB, mIf, mNot, mAnd, mOr, mTru, mAndV, mOrV, mNotV, mU, mChI, mO, mSl, mFrz, mBw, mBwB, mNext, frzE, iSeq, iRng1, iRng2, iRng3, iEnumD, iZipD, gN, gT, gC, gNl, mDrop, D.tru, dAdd, dSub, dMul, dMod, dFdiv, dPow, dII, dCmp, dNeg, dIs, dIsNot, D.isN, D.isB, fLen, fMax2, fMin2, T.toD, T.toDs, T.im, T.ims, D.im, D.ims, List.map_cons, List.map_nil, List.length_cons, List.length_nil, List.cons_append, List.nil_append, List.append_nil, List.replicate_zero, List.replicate_succ, List.getElem?_cons_zero, List.getElem?_cons_succ, List.set_cons_zero, List.set_cons_succ, Nat.reduceAdd, Nat.reduceSub, Nat.reduceLT, Nat.reduceLeDiff, Nat.zero_add, Nat.sub_self, Option.map_some, Option.map_none, if_true, if_false, decide_true, decide_false, Bool.and_true, Bool.true_and, Bool.false_and, Bool.and_false, Bool.not_true, Bool.not_false, reduceIte, reduceCtorEq, szl, Nat.zero_le, List.length_map, dEq, dNe, dIx, dSl, toDs_p, toDs_g, toDs_gi, toDs_gp, List.map_map, Int.reduceLT, Int.reduceLE, Int.reduceAdd, Int.reduceSub, decide_not, dEqB_nn, dEqB_ints0, dEqB_ints, dEqB_int, dEqB_bl, List.map_append, fIsi, D.tyN, Option.bind_some, fSum, fAny, fAll, ints_g, bls_g, D.ints_map, kit_int_int, kit_bool_int, kit_NoneType_int, kit_str_int, kit_list_int, kit_tuple_int, kit_dict_int, kit_int_bool, kit_bool_bool, kit_NoneType_bool, kit_str_bool, kit_list_bool, kit_tuple_bool, kit_dict_bool, kit_int_list, kit_bool_list, kit_NoneType_list, kit_str_list, kit_list_list, kit_tuple_list, kit_dict_list, kit_int_tuple, kit_bool_tuple, kit_NoneType_tuple, kit_str_tuple, kit_list_tuple, kit_tuple_tuple, kit_dict_tuple, kit_int_str, kit_bool_str, kit_NoneType_str, kit_str_str, kit_list_str, kit_tuple_str, kit_dict_str, nc0, nc1, nc2, nc3, nc4, nc5, nc6, nc7, nc8, toDs_c, dEqB_dS0, fMin1, fMax1, toDs_append]⟩
  refine mSeq_step (e1 := [some (.p (dS ps)), some (.p (.int a)), some (.p (.int b)), some (.p (.lst (.int a :: ps.map fun p => .int p.2))), some (.p (.lst ((ps.map fun (p : Int × Int) => D.int p.1) ++ [D.int b]))), none, none, none]) ?_ ?_
  · have hd : (T.l (ps.map fun p => T.p (.int p.1))).toD = .lst (ps.map fun p => D.int p.1) := by rw [T.toD, toDs_map, List.map_map]; rfl
    generalize hE : [some (T.p (dS ps)), some (.p (.int a)), some (.p (.int b)), some (.p (.lst (.int a :: ps.map fun p => .int p.2))), none, none, none, none] = E at *
    generalize mLc [7, 5] (iSeq (mV 0)) (gT 2 (gC (gN 7) (gC (gN 5) gNl))) (fun _ => RB.ok true) (mV 7) = ml at *
    have e1 : mB dAdd ml (mL (mConsT (mV 2) mNilT)) E = .ok (.l (((ps.map fun (p : Int × Int) => D.int p.1) ++ [D.int b]).map T.p)) := by
      have e2 : mL (mConsT (mV 2) mNilT) E = .ok (.l [.p (.int b)]) := by rw [← hE]; simp only [mDef, env0, mSeq, mAsg, mAsgF, mAsgT, mB, mV, mC, mRet, mRetV, mIfS, asB, mCall, mCons, mNil, mConsT, mNilT, mL, mTup, mCB, mIf, mNot, mAnd, mOr, mTru, mAndV, mOrV, mNotV, mU, mChI, mO, mSl, mFrz, mBw, mBwB, mNext, frzE, iSeq, iRng1, iRng2, iRng3, iEnumD, iZipD, gN, gT, gC, gNl, mDrop, D.tru, dAdd, dSub, dMul, dMod, dFdiv, dPow, dII, dCmp, dNeg, dIs, dIsNot, D.isN, D.isB, fLen, fMax2, fMin2, T.toD, T.toDs, T.im, T.ims, D.im, D.ims, List.map_cons, List.map_nil, List.length_cons, List.length_nil, List.cons_append, List.nil_append, List.append_nil, List.replicate_zero, List.replicate_succ, List.getElem?_cons_zero, List.getElem?_cons_succ, List.set_cons_zero, List.set_cons_succ, Nat.reduceAdd, Nat.reduceSub, Nat.reduceLT, Nat.reduceLeDiff, Nat.zero_add, Nat.sub_self, Option.map_some, Option.map_none, if_true, if_false, decide_true, decide_false, Bool.and_true, Bool.true_and, Bool.false_and, Bool.and_false, Bool.not_true, Bool.not_false, reduceIte, reduceCtorEq, szl, Nat.zero_le, List.length_map, dEq, dNe, dIx, dSl, toDs_p, toDs_g, toDs_gi, toDs_gp, List.map_map, Int.reduceLT, Int.reduceLE, Int.reduceAdd, Int.reduceSub, decide_not, dEqB_nn, dEqB_ints0, dEqB_ints, dEqB_int, dEqB_bl, List.map_append, fIsi, D.tyN, Option.bind_some, fSum, fAny, fAll, ints_g, bls_g, D.ints_map, kit_int_int, kit_bool_int, kit_NoneType_int, kit_str_int, kit_list_int, kit_tuple_int, kit_dict_int, kit_int_bool, kit_bool_bool, kit_NoneType_bool, kit_str_bool, kit_list_bool, kit_tuple_bool, kit_dict_bool, kit_int_list, kit_bool_list, kit_NoneType_list, kit_str_list, kit_list_list, kit_tuple_list, kit_dict_list, kit_int_tuple, kit_bool_tuple, kit_NoneType_tuple, kit_str_tuple, kit_list_tuple, kit_tuple_tuple, kit_dict_tuple, kit_int_str, kit_bool_str, kit_NoneType_str, kit_str_str, kit_list_str, kit_tuple_str, kit_dict_str, nc0, nc1, nc2, nc3, nc4, nc5, nc6, nc7, nc8, toDs_c, dEqB_dS0, fMin1, fMax1, toDs_append]
      unfold mB
      rw [l2]
      simp only [e2, hd]
      have e3 : (T.l [.p (.int b)]).toD = .lst [.int b] := by simp only [T.toD, T.toDs]
      rw [e3]
      unfold dAdd
      simp only [List.length_cons, List.length_nil, List.length_map]
      rw [if_pos (by rw [szl]; omega)]
    unfold mAsgF
    rw [e1, ← hE]
    simp only [T.toD, toDs_p]
    rfl
  have hz := gp_zip b ps a
  have hlen : (D.int a :: ps.map fun p => D.int p.2).length = ((ps.map fun p => D.int p.1) ++ [D.int b]).length := by simp
  generalize hA : (D.int a :: ps.map fun p => D.int p.2) = A at *
  generalize hB : (ps.map fun p => D.int p.1) ++ [D.int b] = B at *
  have e9 : fZipL [.lst A, .lst B] = some (.l ((gp a ps b).map fun p => T.p (dP p))) := by
    unfold fZipL
    simp only
    rw [if_pos hlen, hz, List.map_map]
    rfl
  apply mRet_ok
  unfold mCB
  have e8 : mCons (mV 3) (mCons (mV 4) mNil) [some (.p (dS ps)), some (.p (.int a)), some (.p (.int b)), some (.p (.lst A)), some (.p (.lst B)), none, none, none] = .ok [.lst A, .lst B] := by simp only [mDef, env0, mSeq, mAsg, mAsgF, mAsgT, mB, mV, mC, mRet, mRetV, mIfS, asB, mCall, mCons, mNil, mConsT, mNilT, mL, mTup, mCB, mIf, mNot, mAnd, mOr, mTru, mAndV, mOrV, mNotV, mU, mChI, mO, mSl, mFrz, mBw, mBwB, mNext, frzE, iSeq, iRng1, iRng2, iRng3, iEnumD, iZipD, gN, gT, gC, gNl, mDrop, D.tru, dAdd, dSub, dMul, dMod, dFdiv, dPow, dII, dCmp, dNeg, dIs, dIsNot, D.isN, D.isB, fLen, fMax2, fMin2, T.toD, T.toDs, T.im, T.ims, D.im, D.ims, List.map_cons, List.map_nil, List.length_cons, List.length_nil, List.cons_append, List.nil_append, List.append_nil, List.replicate_zero, List.replicate_succ, List.getElem?_cons_zero, List.getElem?_cons_succ, List.set_cons_zero, List.set_cons_succ, Nat.reduceAdd, Nat.reduceSub, Nat.reduceLT, Nat.reduceLeDiff, Nat.zero_add, Nat.sub_self, Option.map_some, Option.map_none, if_true, if_false, decide_true, decide_false, Bool.and_true, Bool.true_and, Bool.false_and, Bool.and_false, Bool.not_true, Bool.not_false, reduceIte, reduceCtorEq, szl, Nat.zero_le, List.length_map, dEq, dNe, dIx, dSl, toDs_p, toDs_g, toDs_gi, toDs_gp, List.map_map, Int.reduceLT, Int.reduceLE, Int.reduceAdd, Int.reduceSub, decide_not, dEqB_nn, dEqB_ints0, dEqB_ints, dEqB_int, dEqB_bl, List.map_append, fIsi, D.tyN, Option.bind_some, fSum, fAny, fAll, ints_g, bls_g, D.ints_map, kit_int_int, kit_bool_int, kit_NoneType_int, kit_str_int, kit_list_int, kit_tuple_int, kit_dict_int, kit_int_bool, kit_bool_bool, kit_NoneType_bool, kit_str_bool, kit_list_bool, kit_tuple_bool, kit_dict_bool, kit_int_list, kit_bool_list, kit_NoneType_list, kit_str_list, kit_list_list, kit_tuple_list, kit_dict_list, kit_int_tuple, kit_bool_tuple, kit_NoneType_tuple, kit_str_tuple, kit_list_tuple, kit_tuple_tuple, kit_dict_tuple, kit_int_str, kit_bool_str, kit_NoneType_str, kit_str_str, kit_list_str, kit_tuple_str, kit_dict_str, nc0, nc1, nc2, nc3, nc4, nc5, nc6, nc7, nc8, toDs_c, dEqB_dS0, fMin1, fMax1, toDs_append]
  rw [e8]
  simp only [e9]
end Nd

namespace Nd
open PySem PySem.W L2
/-! ### sorted, of tuples of whole numbers -/
abbrev dRow (l : List Int) : D := .tup (l.map D.int)
theorem toPs_ints : ∀ l : List Int, D.toPs (l.map D.int) = some (l.map PyData.int)
  | [] => by simp only [List.map_nil, D.toPs]
  | x :: l => by simp only [List.map_cons, D.toPs, D.toP, toPs_ints l]
theorem toP_row (l : List Int) : (dRow l).toP = some (.tuple (l.map .int)) := by simp only [D.toP, toPs_ints, Option.map_some]
theorem alike_ints : ∀ l m : List Int, alikeAll (l.map .int) (m.map .int) = true
  | [], m => by simp only [List.map_nil, alikeAll]
  | x :: l, [] => by simp only [List.map_nil, List.map_cons, alikeAll]
  | x :: l, y :: m => by simp only [List.map_cons, alikeAll, alike, alike_ints l m, Bool.and_self]
theorem depth_ints : ∀ l : List Int, PyData.depthAll (l.map .int) ≤ 1
  | [] => by simp only [List.map_nil, PyData.depthAll]; omega
  | x :: l => by
    have := depth_ints l
    simp only [List.map_cons, PyData.depthAll, PyData.depth]
    omega
def rowLe (a b : List Int) : Bool := decide (a ≤ b)
theorem le_rows (a b : List Int) : dataLe false encD (dRow a) (dRow b) = rowLe a b := by
  rw [dataLe_eq]
  show (!dataLt (encD (dRow b)) (encD (dRow a))) = _
  unfold encD
  rw [toP_row, toP_row]
  simp only [Option.getD_some]
  rw [dataLt_tuple]
  show (!rowLt (b.map .int) (a.map .int)) = _
  rw [dataLt_ints]
  unfold rowLe
  by_cases h : b < a
  · have h' : ¬ a ≤ b := fun r => List.not_lt.mpr r h
    simp [h, h']
  · have h' : a ≤ b := List.not_lt.mp h
    simp [h, h']
theorem fSorted_rows {α : Type} (g : α → List Int) (hg : ∀ x, g x ≠ []) (xs : List α) (hl : xs.length ≤ sizeLine) : ∃ ys : List α, ys.Perm xs ∧ ys.Pairwise (fun a b => g a ≤ g b) ∧ fSorted [.lst (xs.map fun x => dRow (g x))] = some (.l (ys.map fun x => .p (dRow (g x)))) := by
  refine ⟨xs.mergeSort (fun a b => rowLe (g a) (g b)), List.mergeSort_perm _ _, ?_, ?_⟩
  · have := List.pairwise_mergeSort (le := fun a b => rowLe (g a) (g b)) (fun a b c h1 h2 => by
      unfold rowLe at *
      simp only [decide_eq_true_eq] at *
      exact List.le_trans h1 h2) (fun a b => by
      unfold rowLe
      simp only [Bool.or_eq_true, decide_eq_true_eq]
      exact List.le_total _ _) xs
    refine this.imp fun h => ?_
    unfold rowLe at h
    simpa using h
  · have ok : SortOk (xs.map fun x => dRow (g x)) := by
      refine ⟨fun d hd => ?_, ?_, ?_, by rw [List.length_map]; exact hl⟩
      · obtain ⟨x, _, rfl⟩ := List.mem_map.mp hd
        refine ⟨_, toP_row _, ?_⟩
        have := depth_ints (g x)
        simp only [PyData.depth]
        omega
      · rw [List.map_map]
        intro d hd d' hd'
        obtain ⟨x, _, rfl⟩ := List.mem_map.mp hd
        obtain ⟨y, _, rfl⟩ := List.mem_map.mp hd'
        simp only [Function.comp_apply, encD, toP_row, Option.getD_some, alike, alike_ints]
      · rw [List.map_map]
        refine .inl fun d hd => ?_
        obtain ⟨x, _, rfl⟩ := List.mem_map.mp hd
        simp only [Function.comp_apply, encD, toP_row, Option.getD_some]
        cases e : g x with
        | nil => exact absurd e (hg x)
        | cons a l => exact ⟨.int a, l.map .int, rfl⟩
    unfold fSorted
    simp only
    rw [if_pos ok]
    unfold sortD
    have e : (xs.map fun x => dRow (g x)).mergeSort (dataLe false encD) = (xs.mergeSort (fun a b => rowLe (g a) (g b))).map fun x => dRow (g x) :=
      (List.map_mergeSort (f := fun x => dRow (g x)) (r := fun a b => rowLe (g a) (g b)) (s := dataLe false encD) (fun a _ b _ => (le_rows (g a) (g b)).symm)).symm
    rw [e, List.map_map]
    rfl
theorem row_le {a b : Int} {l m : List Int} (h : (a :: l) ≤ (b :: m)) : a ≤ b := by
  rcases List.cons_le_cons_iff.mp h with h | h
  · omega
  · omega
/-! ### by parts -/
theorem mB_ok {f : D → D → Option T} {ma mb : ME} {e : Env} {a b t : T} (h1 : ma e = .ok a) (h2 : mb e = .ok b) (h3 : f a.toD b.toD = some t) : mB f ma mb e = .ok t := by
  unfold mB
  rw [h1]
  simp only
  rw [h2]
  simp only
  rw [h3]
theorem mCB_ok {f : List D → Option T} {ms : Env → RL} {e : Env} {ds : List D} {t : T} (h1 : ms e = .ok ds) (h2 : f ds = some t) : mCB f ms e = .ok t := by
  unfold mCB
  rw [h1]
  simp only
  rw [h2]
theorem mCons_ok {m : ME} {ms : Env → RL} {e : Env} {t : T} {ds : List D} (h1 : m e = .ok t) (h2 : ms e = .ok ds) : mCons m ms e = .ok (t.toD :: ds) := by
  unfold mCons
  rw [h1]
  simp only
  rw [h2]
theorem mAsgF_ok {i : Nat} {m : ME} {e : Env} {t : T} (h : m e = .ok t) (hi : i < e.length) : mAsgF i m e = .nx (e.set i (some (.p t.toD))) := by
  unfold mAsgF
  rw [h]
  simp only
  rw [if_pos hi]
theorem mAsg_ok {i : Nat} {m : ME} {e : Env} {t : T} (h : m e = .ok t) (hi : i < e.length) : mAsg i m e = .nx (e.set i (some t)) := by
  unfold mAsg
  rw [h]
  simp only
  rw [if_pos hi]
theorem toD_lp (xs : List D) : (T.l (xs.map T.p)).toD = .lst xs := by rw [T.toD, toDs_p]
theorem toD_lg {α : Type} (g : α → D) (xs : List α) : (T.l (xs.map fun x => T.p (g x))).toD = .lst (xs.map g) := by rw [T.toD, toDs_g]
theorem add_ll {ma mb : ME} {e : Env} {a b : T} {xs ys : List D} (h1 : ma e = .ok a) (ha : a.toD = .lst xs) (h2 : mb e = .ok b) (hb : b.toD = .lst ys) (hl : xs.length + ys.length ≤ 16777216) : mB dAdd ma mb e = .ok (.l ((xs ++ ys).map T.p)) := by
  refine mB_ok h1 h2 ?_
  rw [ha, hb]
  unfold dAdd
  simp only
  rw [if_pos (by rw [szl]; exact hl)]
theorem enumD_g {α : Type} (g : α → D) (xs : List α) : enumD (xs.map g) = ((List.range xs.length).zip xs).map fun p => D.tup [.int (p.1 : Nat), g p.2] := by
  unfold enumD
  rw [List.length_map, List.zip, List.map_zipWith, List.zipWith_map_right]
theorem dP_eqv (a b : Int × Int) : PyData.eqv (pP a) (pP b) = decide (a = b) := by
  obtain ⟨a1, a2⟩ := a
  obtain ⟨b1, b2⟩ := b
  unfold pP
  simp only [PyData.eqv, PyData.eqvAll, Bool.and_true]
  rw [Bool.eq_iff_iff]
  simp only [Bool.and_eq_true, beq_iff_eq, decide_eq_true_eq, Prod.mk.injEq]
theorem dIn_dS (p : Int × Int) (ws : List (Int × Int)) : dIn (dP p) (dS ws) = some (.p (.bl (ws.any fun z => decide (z = p)))) := by
  have h1 : (dP p).toP = some (pP p) := by simp only [D.toP, D.toPs, Option.map_some, pP]
  have h2 : (dS ws).toP = some (.list (ws.map pP)) := by simp only [D.toP, toPs_dS, Option.map_some]
  have s1 : SeqAt.shaped (pP p) = true := by
    have hc : (pP p).canLay0 = true := by simp only [pP, PyData.canLay0, PyData.canLayAll0, Bool.and_self]
    have hd : (pP p).depth ≤ 64 := by simp only [pP, PyData.depth, PyData.depthAll]; omega
    unfold SeqAt.shaped
    rw [hc, decide_eq_true hd]
    rfl
  have l2 : ∀ ws : List (Int × Int), PyData.canLayAll0 (ws.map pP) = true ∧ PyData.depthAll (ws.map pP) ≤ 2 := fun ws => by
    induction ws with
    | nil => exact ⟨by simp only [List.map_nil, PyData.canLayAll0], by simp only [List.map_nil, PyData.depthAll]; omega⟩
    | cons w ws ih =>
      refine ⟨?_, ?_⟩
      · simp only [List.map_cons, pP, PyData.canLayAll0, PyData.canLay0, Bool.and_self, Bool.true_and]
        exact ih.1
      · have := ih.2
        simp only [List.map_cons, pP, PyData.depthAll, PyData.depth] at this ⊢
        omega
  have s2 : SeqAt.shaped (.list (ws.map pP)) = true := by
    have hc : (PyData.list (ws.map pP)).canLay0 = true := by simp only [PyData.canLay0, (l2 ws).1]
    have hd : (PyData.list (ws.map pP)).depth ≤ 64 := by
      have := (l2 ws).2
      simp only [PyData.depth]
      omega
    unfold SeqAt.shaped
    rw [hc, decide_eq_true hd]
    rfl
  unfold dIn dInB
  rw [h1, h2]
  simp only
  rw [if_pos ⟨s1, s2⟩]
  simp only [Option.map_some, List.any_map]
  have e : ((fun z => PyData.eqv z (pP p)) ∘ pP) = fun z => decide (z = p) := by
    funext z
    exact dP_eqv z p
  rw [e]
end Nd

namespace Nd
open PySem L2
abbrev HJoined (f : List D → RE) : Prop := ∀ ps qs, Good ps → Good qs → ∃ js, Can js ∧ js.length ≤ 200 ∧ (∀ m, has js m ↔ has ps m ∨ has qs m) ∧ f [dS ps, dS qs] = .ok (tS js)
theorem g_joined {fn : List D → RE} (en : HNeed fn) : HJoined (G_joined fn) := by
  intro ps qs g1 g2
  have l1 := g1.len
  have l2 := g2.len
  have n1 := en ps g1
  have n2 := en qs g2
  obtain ⟨rs, perm, ord, hs⟩ := fSorted_rows (fun p : Int × Int => [p.1, p.2]) (fun _ h => by cases h) (ps ++ qs) (by rw [szl, List.length_append]; omega)
  have bd : ∀ p ∈ rs, p.1 < p.2 := fun p hp => by
    rcases List.mem_append.mp (perm.mem_iff.mp hp) with h | h
    · exact (g1.bd p h).2.1
    · exact (g2.bd p h).2.1
  have ord1 : rs.Pairwise fun p q => p.1 ≤ q.1 := ord.imp fun h => row_le h
  have rl : rs.length = ps.length + qs.length := by rw [perm.length_eq, List.length_append]
  refine ⟨jl rs, jl_can bd ord1, ?_, fun m => ?_, ?_⟩
  · cases rs with
    | nil => simp [jl]
    | cons r rs =>
      have := jm_len rs r
      simp only [List.length_cons] at rl
      show (jm r rs).length ≤ 200
      omega
  · rw [jl_has bd ord1 m, ← has_append]
    unfold has
    constructor
    · rintro ⟨p, hp, h⟩; exact ⟨p, perm.mem_iff.mp hp, h⟩
    · rintro ⟨p, hp, h⟩; exact ⟨p, perm.mem_iff.mpr hp, h⟩
  unfold G_joined
  apply mDef_rt
  refine mSeq_step (e1 := [some (.p (dS ps)), some (.p (dS qs)), none, none, none]) (by simp only [mDef, env0, mSeq, mAsg, mAsgF, mAsgT, mB, mV, mC, mRet, mRetV, mIfS, asB, mCall, mCons, mNil, mConsT, mNilT, mL, mTup, mCB, mIf, mNot, mAnd, mOr, mTru, mAndV, mOrV, mNotV, mU, mChI, mO, mSl, mFrz, mBw, mBwB, mNext, frzE, iSeq, iRng1, iRng2, iRng3, iEnumD, iZipD, gN, gT, gC, gNl, mDrop, D.tru, dAdd, dSub, dMul, dMod, dFdiv, dPow, dII, dCmp, dNeg, dIs, dIsNot, D.isN, D.isB, fLen, fMax2, fMin2, T.toD, T.toDs, T.im, T.ims, D.im, D.ims, List.map_cons, List.map_nil, List.length_cons, List.length_nil, List.cons_append, List.nil_append, List.append_nil, List.replicate_zero, List.replicate_succ, List.getElem?_cons_zero, List.getElem?_cons_succ, List.set_cons_zero, List.set_cons_succ, Nat.reduceAdd, Nat.reduceSub, Nat.reduceLT, Nat.reduceLeDiff, Nat.zero_add, Nat.sub_self, Option.map_some, Option.map_none, if_true, if_false, decide_true, decide_false, Bool.and_true, Bool.true_and, Bool.false_and, Bool.and_false, Bool.not_true, Bool.not_false, reduceIte, reduceCtorEq, szl, Nat.zero_le, List.length_map, dEq, dNe, dIx, dSl, toDs_p, toDs_g, toDs_gi, toDs_gp, List.map_map, Int.reduceLT, Int.reduceLE, Int.reduceAdd, Int.reduceSub, decide_not, dEqB_nn, dEqB_ints0, dEqB_ints, dEqB_int, dEqB_bl, List.map_append, fIsi, D.tyN, Option.bind_some, fSum, fAny, fAll, ints_g, bls_g, D.ints_map, kit_int_int, kit_bool_int, kit_NoneType_int, kit_str_int, kit_list_int, kit_tuple_int, kit_dict_int, kit_int_bool, kit_bool_bool, kit_NoneType_bool, kit_str_bool, kit_list_bool, kit_tuple_bool, kit_dict_bool, kit_int_list, kit_bool_list, kit_NoneType_list, kit_str_list, kit_list_list, kit_tuple_list, kit_dict_list, kit_int_tuple, kit_bool_tuple, kit_NoneType_tuple, kit_str_tuple, kit_list_tuple, kit_tuple_tuple, kit_dict_tuple, kit_int_str, kit_bool_str, kit_NoneType_str, kit_str_str, kit_list_str, kit_tuple_str, kit_dict_str, nc0, nc1, nc2, nc3, nc4, nc5, nc6, nc7, nc8, toDs_c, dEqB_dS0, fMin1, fMax1, toDs_append, n1]) ?_
  refine mSeq_step (e1 := [some (.p (dS ps)), some (.p (dS qs)), none, none, none]) (by simp only [mDef, env0, mSeq, mAsg, mAsgF, mAsgT, mB, mV, mC, mRet, mRetV, mIfS, asB, mCall, mCons, mNil, mConsT, mNilT, mL, mTup, mCB, mIf, mNot, mAnd, mOr, mTru, mAndV, mOrV, mNotV, mU, mChI, mO, mSl, mFrz, mBw, mBwB, mNext, frzE, iSeq, iRng1, iRng2, iRng3, iEnumD, iZipD, gN, gT, gC, gNl, mDrop, D.tru, dAdd, dSub, dMul, dMod, dFdiv, dPow, dII, dCmp, dNeg, dIs, dIsNot, D.isN, D.isB, fLen, fMax2, fMin2, T.toD, T.toDs, T.im, T.ims, D.im, D.ims, List.map_cons, List.map_nil, List.length_cons, List.length_nil, List.cons_append, List.nil_append, List.append_nil, List.replicate_zero, List.replicate_succ, List.getElem?_cons_zero, List.getElem?_cons_succ, List.set_cons_zero, List.set_cons_succ, Nat.reduceAdd, Nat.reduceSub, Nat.reduceLT, Nat.reduceLeDiff, Nat.zero_add, Nat.sub_self, Option.map_some, Option.map_none, if_true, if_false, decide_true, decide_false, Bool.and_true, Bool.true_and, Bool.false_and, Bool.and_false, Bool.not_true, Bool.not_false, reduceIte, reduceCtorEq, szl, Nat.zero_le, List.length_map, dEq, dNe, dIx, dSl, toDs_p, toDs_g, toDs_gi, toDs_gp, List.map_map, Int.reduceLT, Int.reduceLE, Int.reduceAdd, Int.reduceSub, decide_not, dEqB_nn, dEqB_ints0, dEqB_ints, dEqB_int, dEqB_bl, List.map_append, fIsi, D.tyN, Option.bind_some, fSum, fAny, fAll, ints_g, bls_g, D.ints_map, kit_int_int, kit_bool_int, kit_NoneType_int, kit_str_int, kit_list_int, kit_tuple_int, kit_dict_int, kit_int_bool, kit_bool_bool, kit_NoneType_bool, kit_str_bool, kit_list_bool, kit_tuple_bool, kit_dict_bool, kit_int_list, kit_bool_list, kit_NoneType_list, kit_str_list, kit_list_list, kit_tuple_list, kit_dict_list, kit_int_tuple, kit_bool_tuple, kit_NoneType_tuple, kit_str_tuple, kit_list_tuple, kit_tuple_tuple, kit_dict_tuple, kit_int_str, kit_bool_str, kit_NoneType_str, kit_str_str, kit_list_str, kit_tuple_str, kit_dict_str, nc0, nc1, nc2, nc3, nc4, nc5, nc6, nc7, nc8, toDs_c, dEqB_dS0, fMin1, fMax1, toDs_append, n2]) ?_
  refine mSeq_step (e1 := [some (.p (dS ps)), some (.p (dS qs)), some (.l []), none, none]) (by simp only [mDef, env0, mSeq, mAsg, mAsgF, mAsgT, mB, mV, mC, mRet, mRetV, mIfS, asB, mCall, mCons, mNil, mConsT, mNilT, mL, mTup, mCB, mIf, mNot, mAnd, mOr, mTru, mAndV, mOrV, mNotV, mU, mChI, mO, mSl, mFrz, mBw, mBwB, mNext, frzE, iSeq, iRng1, iRng2, iRng3, iEnumD, iZipD, gN, gT, gC, gNl, mDrop, D.tru, dAdd, dSub, dMul, dMod, dFdiv, dPow, dII, dCmp, dNeg, dIs, dIsNot, D.isN, D.isB, fLen, fMax2, fMin2, T.toD, T.toDs, T.im, T.ims, D.im, D.ims, List.map_cons, List.map_nil, List.length_cons, List.length_nil, List.cons_append, List.nil_append, List.append_nil, List.replicate_zero, List.replicate_succ, List.getElem?_cons_zero, List.getElem?_cons_succ, List.set_cons_zero, List.set_cons_succ, Nat.reduceAdd, Nat.reduceSub, Nat.reduceLT, Nat.reduceLeDiff, Nat.zero_add, Nat.sub_self, Option.map_some, Option.map_none, if_true, if_false, decide_true, decide_false, Bool.and_true, Bool.true_and, Bool.false_and, Bool.and_false, Bool.not_true, Bool.not_false, reduceIte, reduceCtorEq, szl, Nat.zero_le, List.length_map, dEq, dNe, dIx, dSl, toDs_p, toDs_g, toDs_gi, toDs_gp, List.map_map, Int.reduceLT, Int.reduceLE, Int.reduceAdd, Int.reduceSub, decide_not, dEqB_nn, dEqB_ints0, dEqB_ints, dEqB_int, dEqB_bl, List.map_append, fIsi, D.tyN, Option.bind_some, fSum, fAny, fAll, ints_g, bls_g, D.ints_map, kit_int_int, kit_bool_int, kit_NoneType_int, kit_str_int, kit_list_int, kit_tuple_int, kit_dict_int, kit_int_bool, kit_bool_bool, kit_NoneType_bool, kit_str_bool, kit_list_bool, kit_tuple_bool, kit_dict_bool, kit_int_list, kit_bool_list, kit_NoneType_list, kit_str_list, kit_list_list, kit_tuple_list, kit_dict_list, kit_int_tuple, kit_bool_tuple, kit_NoneType_tuple, kit_str_tuple, kit_list_tuple, kit_tuple_tuple, kit_dict_tuple, kit_int_str, kit_bool_str, kit_NoneType_str, kit_str_str, kit_list_str, kit_tuple_str, kit_dict_str, nc0, nc1, nc2, nc3, nc4, nc5, nc6, nc7, nc8, toDs_c, dEqB_dS0, fMin1, fMax1, toDs_append]) ?_
  refine mSeq_for rs dP (fun rest E => ∃ (out : List (Int × Int)) (x y : Option T), (out = [] ∧ rest = rs ∨ ∃ pre c, out = pre ++ [c] ∧ pre ++ jm c rest = jl rs) ∧ out.length + rest.length ≤ 200 ∧ E = [some (.p (dS ps)), some (.p (dS qs)), some (tS out), x, y]) ?_ ⟨[], none, none, .inl ⟨rfl, rfl⟩, by simp; omega, rfl⟩ ?_ ?_
  · have l3 : ps.length + qs.length ≤ 16777216 := by omega
    have e1 : mCB fSorted (mCons (mB dAdd (mV 0) (mV 1)) mNil) [some (.p (dS ps)), some (.p (dS qs)), some (.l []), none, none] = .ok (.l (rs.map fun p => .p (dP p))) := by
      have e2 : mCons (mB dAdd (mV 0) (mV 1)) mNil [some (.p (dS ps)), some (.p (dS qs)), some (.l []), none, none] = .ok [.lst ((ps ++ qs).map dP)] := by
        rw [List.map_append]
        simp only [mDef, env0, mSeq, mAsg, mAsgF, mAsgT, mB, mV, mC, mRet, mRetV, mIfS, asB, mCall, mCons, mNil, mConsT, mNilT, mL, mTup, mCB, mIf, mNot, mAnd, mOr, mTru, mAndV, mOrV, mNotV, mU, mChI, mO, mSl, mFrz, mBw, mBwB, mNext, frzE, iSeq, iRng1, iRng2, iRng3, iEnumD, iZipD, gN, gT, gC, gNl, mDrop, D.tru, dAdd, dSub, dMul, dMod, dFdiv, dPow, dII, dCmp, dNeg, dIs, dIsNot, D.isN, D.isB, fLen, fMax2, fMin2, T.toD, T.toDs, T.im, T.ims, D.im, D.ims, List.map_cons, List.map_nil, List.length_cons, List.length_nil, List.cons_append, List.nil_append, List.append_nil, List.replicate_zero, List.replicate_succ, List.getElem?_cons_zero, List.getElem?_cons_succ, List.set_cons_zero, List.set_cons_succ, Nat.reduceAdd, Nat.reduceSub, Nat.reduceLT, Nat.reduceLeDiff, Nat.zero_add, Nat.sub_self, Option.map_some, Option.map_none, if_true, if_false, decide_true, decide_false, Bool.and_true, Bool.true_and, Bool.false_and, Bool.and_false, Bool.not_true, Bool.not_false, reduceIte, reduceCtorEq, szl, Nat.zero_le, List.length_map, dEq, dNe, dIx, dSl, toDs_p, toDs_g, toDs_gi, toDs_gp, List.map_map, Int.reduceLT, Int.reduceLE, Int.reduceAdd, Int.reduceSub, decide_not, dEqB_nn, dEqB_ints0, dEqB_ints, dEqB_int, dEqB_bl, List.map_append, fIsi, D.tyN, Option.bind_some, fSum, fAny, fAll, ints_g, bls_g, D.ints_map, kit_int_int, kit_bool_int, kit_NoneType_int, kit_str_int, kit_list_int, kit_tuple_int, kit_dict_int, kit_int_bool, kit_bool_bool, kit_NoneType_bool, kit_str_bool, kit_list_bool, kit_tuple_bool, kit_dict_bool, kit_int_list, kit_bool_list, kit_NoneType_list, kit_str_list, kit_list_list, kit_tuple_list, kit_dict_list, kit_int_tuple, kit_bool_tuple, kit_NoneType_tuple, kit_str_tuple, kit_list_tuple, kit_tuple_tuple, kit_dict_tuple, kit_int_str, kit_bool_str, kit_NoneType_str, kit_str_str, kit_list_str, kit_tuple_str, kit_dict_str, nc0, nc1, nc2, nc3, nc4, nc5, nc6, nc7, nc8, toDs_c, dEqB_dS0, fMin1, fMax1, toDs_append, l3, List.map_id_fun', id]
      unfold mCB
      rw [e2]
      simp only
      have e3 : fSorted [.lst ((ps ++ qs).map dP)] = some (.l (rs.map fun p => .p (dP p))) := hs
      rw [e3]
    unfold iSeq
    rw [e1]
    simp only [T.toD, toDs_gp]
  · rintro ⟨a, b⟩ ys E hx ⟨out, x, y, hinv, hlen, rfl⟩
    have ol : out.length < 16777216 := by simp only [List.length_cons] at hlen; omega
    rcases hinv with ⟨rfl, hr⟩ | ⟨pre, c, rfl, hr⟩
    · refine ⟨[some (.p (dS ps)), some (.p (dS qs)), some (.l []), some (.p (.int a)), some (.p (.int b))], [some (.p (dS ps)), some (.p (dS qs)), some (tS [(a, b)]), some (.p (.int a)), some (.p (.int b))], by simp only [mDef, env0, mSeq, mAsg, mAsgF, mAsgT, mB, mV, mC, mRet, mRetV, mIfS, asB, mCall, mCons, mNil, mConsT, mNilT, mL, mTup, mCB, mIf, mNot, mAnd, mOr, mTru, mAndV, mOrV, mNotV, mU, mChI, mO, mSl, mFrz, mBw, mBwB, mNext, frzE, iSeq, iRng1, iRng2, iRng3, iEnumD, iZipD, gN, gT, gC, gNl, mDrop, D.tru, dAdd, dSub, dMul, dMod, dFdiv, dPow, dII, dCmp, dNeg, dIs, dIsNot, D.isN, D.isB, fLen, fMax2, fMin2, T.toD, T.toDs, T.im, T.ims, D.im, D.ims, List.map_cons, List.map_nil, List.length_cons, List.length_nil, List.cons_append, List.nil_append, List.append_nil, List.replicate_zero, List.replicate_succ, List.getElem?_cons_zero, List.getElem?_cons_succ, List.set_cons_zero, List.set_cons_succ, Nat.reduceAdd, Nat.reduceSub, Nat.reduceLT, Nat.reduceLeDiff, Nat.zero_add, Nat.sub_self, Option.map_some, Option.map_none, if_true, if_false, decide_true, decide_false, Bool.and_true, Bool.true_and, Bool.false_and, Bool.and_false, Bool.not_true, Bool.not_false, reduceIte, reduceCtorEq, szl, Nat.zero_le, List.length_map, dEq, dNe, dIx, dSl, toDs_p, toDs_g, toDs_gi, toDs_gp, List.map_map, Int.reduceLT, Int.reduceLE, Int.reduceAdd, Int.reduceSub, decide_not, dEqB_nn, dEqB_ints0, dEqB_ints, dEqB_int, dEqB_bl, List.map_append, fIsi, D.tyN, Option.bind_some, fSum, fAny, fAll, ints_g, bls_g, D.ints_map, kit_int_int, kit_bool_int, kit_NoneType_int, kit_str_int, kit_list_int, kit_tuple_int, kit_dict_int, kit_int_bool, kit_bool_bool, kit_NoneType_bool, kit_str_bool, kit_list_bool, kit_tuple_bool, kit_dict_bool, kit_int_list, kit_bool_list, kit_NoneType_list, kit_str_list, kit_list_list, kit_tuple_list, kit_dict_list, kit_int_tuple, kit_bool_tuple, kit_NoneType_tuple, kit_str_tuple, kit_list_tuple, kit_tuple_tuple, kit_dict_tuple, kit_int_str, kit_bool_str, kit_NoneType_str, kit_str_str, kit_list_str, kit_tuple_str, kit_dict_str, nc0, nc1, nc2, nc3, nc4, nc5, nc6, nc7, nc8, toDs_c, dEqB_dS0, fMin1, fMax1, toDs_append, tS], ?_, [(a, b)], _, _, .inr ⟨[], (a, b), rfl, by rw [← hr]; rfl⟩, by simp only [List.length_cons, List.length_nil] at *; omega, rfl⟩
      simp only [mDef, env0, mSeq, mAsg, mAsgF, mAsgT, mB, mV, mC, mRet, mRetV, mIfS, asB, mCall, mCons, mNil, mConsT, mNilT, mL, mTup, mCB, mIf, mNot, mAnd, mOr, mTru, mAndV, mOrV, mNotV, mU, mChI, mO, mSl, mFrz, mBw, mBwB, mNext, frzE, iSeq, iRng1, iRng2, iRng3, iEnumD, iZipD, gN, gT, gC, gNl, mDrop, D.tru, dAdd, dSub, dMul, dMod, dFdiv, dPow, dII, dCmp, dNeg, dIs, dIsNot, D.isN, D.isB, fLen, fMax2, fMin2, T.toD, T.toDs, T.im, T.ims, D.im, D.ims, List.map_cons, List.map_nil, List.length_cons, List.length_nil, List.cons_append, List.nil_append, List.append_nil, List.replicate_zero, List.replicate_succ, List.getElem?_cons_zero, List.getElem?_cons_succ, List.set_cons_zero, List.set_cons_succ, Nat.reduceAdd, Nat.reduceSub, Nat.reduceLT, Nat.reduceLeDiff, Nat.zero_add, Nat.sub_self, Option.map_some, Option.map_none, if_true, if_false, decide_true, decide_false, Bool.and_true, Bool.true_and, Bool.false_and, Bool.and_false, Bool.not_true, Bool.not_false, reduceIte, reduceCtorEq, szl, Nat.zero_le, List.length_map, dEq, dNe, dIx, dSl, toDs_p, toDs_g, toDs_gi, toDs_gp, List.map_map, Int.reduceLT, Int.reduceLE, Int.reduceAdd, Int.reduceSub, decide_not, dEqB_nn, dEqB_ints0, dEqB_ints, dEqB_int, dEqB_bl, List.map_append, fIsi, D.tyN, Option.bind_some, fSum, fAny, fAll, ints_g, bls_g, D.ints_map, kit_int_int, kit_bool_int, kit_NoneType_int, kit_str_int, kit_list_int, kit_tuple_int, kit_dict_int, kit_int_bool, kit_bool_bool, kit_NoneType_bool, kit_str_bool, kit_list_bool, kit_tuple_bool, kit_dict_bool, kit_int_list, kit_bool_list, kit_NoneType_list, kit_str_list, kit_list_list, kit_tuple_list, kit_dict_list, kit_int_tuple, kit_bool_tuple, kit_NoneType_tuple, kit_str_tuple, kit_list_tuple, kit_tuple_tuple, kit_dict_tuple, kit_int_str, kit_bool_str, kit_NoneType_str, kit_str_str, kit_list_str, kit_tuple_str, kit_dict_str, nc0, nc1, nc2, nc3, nc4, nc5, nc6, nc7, nc8, toDs_c, dEqB_dS0, fMin1, fMax1, toDs_append, mApp, tS, D.tru, List.isEmpty_nil, Bool.not_true]
    · have ea := atI_last (pre.map dP) (dP c)
      rw [← List.map_singleton, ← List.map_append] at ea
      have eb := ixN_last (n := (pre ++ [c]).length) (by simp)
      have ec : ∀ x : T, (List.map (fun p => T.p (dP p)) (pre ++ [c])).set ((pre ++ [c]).length - 1) x = List.map (fun p => T.p (dP p)) pre ++ [x] := by
        intro x
        rw [List.map_append, List.length_append, List.map_singleton, List.length_singleton, Nat.add_sub_cancel]
        rw [List.set_append_right _ _ (by simp)]
        simp
      have et : (List.map dP (pre ++ [c])).isEmpty = false := by simp
      by_cases h : a ≤ c.2
      · refine ⟨[some (.p (dS ps)), some (.p (dS qs)), some (tS (pre ++ [c])), some (.p (.int a)), some (.p (.int b))], [some (.p (dS ps)), some (.p (dS qs)), some (tS (pre ++ [(c.1, if b > c.2 then b else c.2)])), some (.p (.int a)), some (.p (.int b))], by simp only [mDef, env0, mSeq, mAsg, mAsgF, mAsgT, mB, mV, mC, mRet, mRetV, mIfS, asB, mCall, mCons, mNil, mConsT, mNilT, mL, mTup, mCB, mIf, mNot, mAnd, mOr, mTru, mAndV, mOrV, mNotV, mU, mChI, mO, mSl, mFrz, mBw, mBwB, mNext, frzE, iSeq, iRng1, iRng2, iRng3, iEnumD, iZipD, gN, gT, gC, gNl, mDrop, D.tru, dAdd, dSub, dMul, dMod, dFdiv, dPow, dII, dCmp, dNeg, dIs, dIsNot, D.isN, D.isB, fLen, fMax2, fMin2, T.toD, T.toDs, T.im, T.ims, D.im, D.ims, List.map_cons, List.map_nil, List.length_cons, List.length_nil, List.cons_append, List.nil_append, List.append_nil, List.replicate_zero, List.replicate_succ, List.getElem?_cons_zero, List.getElem?_cons_succ, List.set_cons_zero, List.set_cons_succ, Nat.reduceAdd, Nat.reduceSub, Nat.reduceLT, Nat.reduceLeDiff, Nat.zero_add, Nat.sub_self, Option.map_some, Option.map_none, if_true, if_false, decide_true, decide_false, Bool.and_true, Bool.true_and, Bool.false_and, Bool.and_false, Bool.not_true, Bool.not_false, reduceIte, reduceCtorEq, szl, Nat.zero_le, List.length_map, dEq, dNe, dIx, dSl, toDs_p, toDs_g, toDs_gi, toDs_gp, List.map_map, Int.reduceLT, Int.reduceLE, Int.reduceAdd, Int.reduceSub, decide_not, dEqB_nn, dEqB_ints0, dEqB_ints, dEqB_int, dEqB_bl, List.map_append, fIsi, D.tyN, Option.bind_some, fSum, fAny, fAll, ints_g, bls_g, D.ints_map, kit_int_int, kit_bool_int, kit_NoneType_int, kit_str_int, kit_list_int, kit_tuple_int, kit_dict_int, kit_int_bool, kit_bool_bool, kit_NoneType_bool, kit_str_bool, kit_list_bool, kit_tuple_bool, kit_dict_bool, kit_int_list, kit_bool_list, kit_NoneType_list, kit_str_list, kit_list_list, kit_tuple_list, kit_dict_list, kit_int_tuple, kit_bool_tuple, kit_NoneType_tuple, kit_str_tuple, kit_list_tuple, kit_tuple_tuple, kit_dict_tuple, kit_int_str, kit_bool_str, kit_NoneType_str, kit_str_str, kit_list_str, kit_tuple_str, kit_dict_str, nc0, nc1, nc2, nc3, nc4, nc5, nc6, nc7, nc8, toDs_c, dEqB_dS0, fMin1, fMax1, toDs_append, tS], ?_, pre ++ [(c.1, if b > c.2 then b else c.2)], _, _, .inr ⟨pre, _, rfl, ?_⟩, ?_, rfl⟩
        · have e9 : tS (pre ++ [(c.1, if b > c.2 then b else c.2)]) = .l (pre.map (fun p => T.p (dP p)) ++ [T.p (dP (c.1, if b > c.2 then b else c.2))]) := by unfold tS; rw [List.map_append]; rfl
          rw [e9]
          generalize hg : pre ++ [c] = pq at *
          simp only [mDef, env0, mSeq, mAsg, mAsgF, mAsgT, mB, mV, mC, mRet, mRetV, mIfS, asB, mCall, mCons, mNil, mConsT, mNilT, mL, mTup, mCB, mIf, mNot, mAnd, mOr, mTru, mAndV, mOrV, mNotV, mU, mChI, mO, mSl, mFrz, mBw, mBwB, mNext, frzE, iSeq, iRng1, iRng2, iRng3, iEnumD, iZipD, gN, gT, gC, gNl, mDrop, D.tru, dAdd, dSub, dMul, dMod, dFdiv, dPow, dII, dCmp, dNeg, dIs, dIsNot, D.isN, D.isB, fLen, fMax2, fMin2, T.toD, T.toDs, T.im, T.ims, D.im, D.ims, List.map_cons, List.map_nil, List.length_cons, List.length_nil, List.cons_append, List.nil_append, List.append_nil, List.replicate_zero, List.replicate_succ, List.getElem?_cons_zero, List.getElem?_cons_succ, List.set_cons_zero, List.set_cons_succ, Nat.reduceAdd, Nat.reduceSub, Nat.reduceLT, Nat.reduceLeDiff, Nat.zero_add, Nat.sub_self, Option.map_some, Option.map_none, if_true, if_false, decide_true, decide_false, Bool.and_true, Bool.true_and, Bool.false_and, Bool.and_false, Bool.not_true, Bool.not_false, reduceIte, reduceCtorEq, szl, Nat.zero_le, List.length_map, dEq, dNe, dIx, dSl, toDs_p, toDs_g, toDs_gi, toDs_gp, List.map_map, Int.reduceLT, Int.reduceLE, Int.reduceAdd, Int.reduceSub, decide_not, dEqB_nn, dEqB_ints0, dEqB_ints, dEqB_int, dEqB_bl, List.map_append, fIsi, D.tyN, Option.bind_some, fSum, fAny, fAll, ints_g, bls_g, D.ints_map, kit_int_int, kit_bool_int, kit_NoneType_int, kit_str_int, kit_list_int, kit_tuple_int, kit_dict_int, kit_int_bool, kit_bool_bool, kit_NoneType_bool, kit_str_bool, kit_list_bool, kit_tuple_bool, kit_dict_bool, kit_int_list, kit_bool_list, kit_NoneType_list, kit_str_list, kit_list_list, kit_tuple_list, kit_dict_list, kit_int_tuple, kit_bool_tuple, kit_NoneType_tuple, kit_str_tuple, kit_list_tuple, kit_tuple_tuple, kit_dict_tuple, kit_int_str, kit_bool_str, kit_NoneType_str, kit_str_str, kit_list_str, kit_tuple_str, kit_dict_str, nc0, nc1, nc2, nc3, nc4, nc5, nc6, nc7, nc8, toDs_c, dEqB_dS0, fMin1, fMax1, toDs_append, mSet, tS, D.tru, et, ea, atI2_1, atI2_0, h, eb, ec]
        · rw [← hr]
          show pre ++ jm _ ys = pre ++ jm c ((a, b) :: ys)
          rw [show jm c ((a, b) :: ys) = jm (c.1, if b > c.2 then b else c.2) ys by rw [jm]; rw [if_pos h]]
        · simp only [List.length_append, List.length_cons, List.length_nil] at *; omega
      · refine ⟨[some (.p (dS ps)), some (.p (dS qs)), some (tS (pre ++ [c])), some (.p (.int a)), some (.p (.int b))], [some (.p (dS ps)), some (.p (dS qs)), some (tS (pre ++ [c] ++ [(a, b)])), some (.p (.int a)), some (.p (.int b))], by simp only [mDef, env0, mSeq, mAsg, mAsgF, mAsgT, mB, mV, mC, mRet, mRetV, mIfS, asB, mCall, mCons, mNil, mConsT, mNilT, mL, mTup, mCB, mIf, mNot, mAnd, mOr, mTru, mAndV, mOrV, mNotV, mU, mChI, mO, mSl, mFrz, mBw, mBwB, mNext, frzE, iSeq, iRng1, iRng2, iRng3, iEnumD, iZipD, gN, gT, gC, gNl, mDrop, D.tru, dAdd, dSub, dMul, dMod, dFdiv, dPow, dII, dCmp, dNeg, dIs, dIsNot, D.isN, D.isB, fLen, fMax2, fMin2, T.toD, T.toDs, T.im, T.ims, D.im, D.ims, List.map_cons, List.map_nil, List.length_cons, List.length_nil, List.cons_append, List.nil_append, List.append_nil, List.replicate_zero, List.replicate_succ, List.getElem?_cons_zero, List.getElem?_cons_succ, List.set_cons_zero, List.set_cons_succ, Nat.reduceAdd, Nat.reduceSub, Nat.reduceLT, Nat.reduceLeDiff, Nat.zero_add, Nat.sub_self, Option.map_some, Option.map_none, if_true, if_false, decide_true, decide_false, Bool.and_true, Bool.true_and, Bool.false_and, Bool.and_false, Bool.not_true, Bool.not_false, reduceIte, reduceCtorEq, szl, Nat.zero_le, List.length_map, dEq, dNe, dIx, dSl, toDs_p, toDs_g, toDs_gi, toDs_gp, List.map_map, Int.reduceLT, Int.reduceLE, Int.reduceAdd, Int.reduceSub, decide_not, dEqB_nn, dEqB_ints0, dEqB_ints, dEqB_int, dEqB_bl, List.map_append, fIsi, D.tyN, Option.bind_some, fSum, fAny, fAll, ints_g, bls_g, D.ints_map, kit_int_int, kit_bool_int, kit_NoneType_int, kit_str_int, kit_list_int, kit_tuple_int, kit_dict_int, kit_int_bool, kit_bool_bool, kit_NoneType_bool, kit_str_bool, kit_list_bool, kit_tuple_bool, kit_dict_bool, kit_int_list, kit_bool_list, kit_NoneType_list, kit_str_list, kit_list_list, kit_tuple_list, kit_dict_list, kit_int_tuple, kit_bool_tuple, kit_NoneType_tuple, kit_str_tuple, kit_list_tuple, kit_tuple_tuple, kit_dict_tuple, kit_int_str, kit_bool_str, kit_NoneType_str, kit_str_str, kit_list_str, kit_tuple_str, kit_dict_str, nc0, nc1, nc2, nc3, nc4, nc5, nc6, nc7, nc8, toDs_c, dEqB_dS0, fMin1, fMax1, toDs_append, tS], ?_, pre ++ [c] ++ [(a, b)], _, _, .inr ⟨pre ++ [c], _, rfl, ?_⟩, ?_, rfl⟩
        · have e9 : tS (pre ++ [c] ++ [(a, b)]) = .l ((pre ++ [c]).map (fun p => T.p (dP p)) ++ [T.p (dP (a, b))]) := by unfold tS; rw [List.map_append (l₁ := pre ++ [c])]; rfl
          rw [e9]
          generalize hg : pre ++ [c] = pq at *
          simp only [mDef, env0, mSeq, mAsg, mAsgF, mAsgT, mB, mV, mC, mRet, mRetV, mIfS, asB, mCall, mCons, mNil, mConsT, mNilT, mL, mTup, mCB, mIf, mNot, mAnd, mOr, mTru, mAndV, mOrV, mNotV, mU, mChI, mO, mSl, mFrz, mBw, mBwB, mNext, frzE, iSeq, iRng1, iRng2, iRng3, iEnumD, iZipD, gN, gT, gC, gNl, mDrop, D.tru, dAdd, dSub, dMul, dMod, dFdiv, dPow, dII, dCmp, dNeg, dIs, dIsNot, D.isN, D.isB, fLen, fMax2, fMin2, T.toD, T.toDs, T.im, T.ims, D.im, D.ims, List.map_cons, List.map_nil, List.length_cons, List.length_nil, List.cons_append, List.nil_append, List.append_nil, List.replicate_zero, List.replicate_succ, List.getElem?_cons_zero, List.getElem?_cons_succ, List.set_cons_zero, List.set_cons_succ, Nat.reduceAdd, Nat.reduceSub, Nat.reduceLT, Nat.reduceLeDiff, Nat.zero_add, Nat.sub_self, Option.map_some, Option.map_none, if_true, if_false, decide_true, decide_false, Bool.and_true, Bool.true_and, Bool.false_and, Bool.and_false, Bool.not_true, Bool.not_false, reduceIte, reduceCtorEq, szl, Nat.zero_le, List.length_map, dEq, dNe, dIx, dSl, toDs_p, toDs_g, toDs_gi, toDs_gp, List.map_map, Int.reduceLT, Int.reduceLE, Int.reduceAdd, Int.reduceSub, decide_not, dEqB_nn, dEqB_ints0, dEqB_ints, dEqB_int, dEqB_bl, List.map_append, fIsi, D.tyN, Option.bind_some, fSum, fAny, fAll, ints_g, bls_g, D.ints_map, kit_int_int, kit_bool_int, kit_NoneType_int, kit_str_int, kit_list_int, kit_tuple_int, kit_dict_int, kit_int_bool, kit_bool_bool, kit_NoneType_bool, kit_str_bool, kit_list_bool, kit_tuple_bool, kit_dict_bool, kit_int_list, kit_bool_list, kit_NoneType_list, kit_str_list, kit_list_list, kit_tuple_list, kit_dict_list, kit_int_tuple, kit_bool_tuple, kit_NoneType_tuple, kit_str_tuple, kit_list_tuple, kit_tuple_tuple, kit_dict_tuple, kit_int_str, kit_bool_str, kit_NoneType_str, kit_str_str, kit_list_str, kit_tuple_str, kit_dict_str, nc0, nc1, nc2, nc3, nc4, nc5, nc6, nc7, nc8, toDs_c, dEqB_dS0, fMin1, fMax1, toDs_append, mApp, tS, D.tru, et, ea, atI2_1, h, ol]
        · rw [← hr, List.append_assoc]
          show pre ++ ([c] ++ jm _ ys) = pre ++ jm c ((a, b) :: ys)
          rw [show jm c ((a, b) :: ys) = c :: jm (a, b) ys by rw [jm]; rw [if_neg h]]
          rfl
        · simp only [List.length_append, List.length_cons, List.length_nil] at *; omega
  · rintro E ⟨out, x, y, hinv, _, rfl⟩
    have : out = jl rs := by
      rcases hinv with ⟨rfl, hr⟩ | ⟨pre, c, rfl, hr⟩
      · rw [← hr]; rfl
      · rw [← hr]; rfl
    rw [this]
    simp only [mDef, env0, mSeq, mAsg, mAsgF, mAsgT, mB, mV, mC, mRet, mRetV, mIfS, asB, mCall, mCons, mNil, mConsT, mNilT, mL, mTup, mCB, mIf, mNot, mAnd, mOr, mTru, mAndV, mOrV, mNotV, mU, mChI, mO, mSl, mFrz, mBw, mBwB, mNext, frzE, iSeq, iRng1, iRng2, iRng3, iEnumD, iZipD, gN, gT, gC, gNl, mDrop, D.tru, dAdd, dSub, dMul, dMod, dFdiv, dPow, dII, dCmp, dNeg, dIs, dIsNot, D.isN, D.isB, fLen, fMax2, fMin2, T.toD, T.toDs, T.im, T.ims, D.im, D.ims, List.map_cons, List.map_nil, List.length_cons, List.length_nil, List.cons_append, List.nil_append, List.append_nil, List.replicate_zero, List.replicate_succ, List.getElem?_cons_zero, List.getElem?_cons_succ, List.set_cons_zero, List.set_cons_succ, Nat.reduceAdd, Nat.reduceSub, Nat.reduceLT, Nat.reduceLeDiff, Nat.zero_add, Nat.sub_self, Option.map_some, Option.map_none, if_true, if_false, decide_true, decide_false, Bool.and_true, Bool.true_and, Bool.false_and, Bool.and_false, Bool.not_true, Bool.not_false, reduceIte, reduceCtorEq, szl, Nat.zero_le, List.length_map, dEq, dNe, dIx, dSl, toDs_p, toDs_g, toDs_gi, toDs_gp, List.map_map, Int.reduceLT, Int.reduceLE, Int.reduceAdd, Int.reduceSub, decide_not, dEqB_nn, dEqB_ints0, dEqB_ints, dEqB_int, dEqB_bl, List.map_append, fIsi, D.tyN, Option.bind_some, fSum, fAny, fAll, ints_g, bls_g, D.ints_map, kit_int_int, kit_bool_int, kit_NoneType_int, kit_str_int, kit_list_int, kit_tuple_int, kit_dict_int, kit_int_bool, kit_bool_bool, kit_NoneType_bool, kit_str_bool, kit_list_bool, kit_tuple_bool, kit_dict_bool, kit_int_list, kit_bool_list, kit_NoneType_list, kit_str_list, kit_list_list, kit_tuple_list, kit_dict_list, kit_int_tuple, kit_bool_tuple, kit_NoneType_tuple, kit_str_tuple, kit_list_tuple, kit_tuple_tuple, kit_dict_tuple, kit_int_str, kit_bool_str, kit_NoneType_str, kit_str_str, kit_list_str, kit_tuple_str, kit_dict_str, nc0, nc1, nc2, nc3, nc4, nc5, nc6, nc7, nc8, toDs_c, dEqB_dS0, fMin1, fMax1, toDs_append]
abbrev HMet (f : List D → RE) : Prop := ∀ ps qs, Good ps → Good qs → ∃ js, Can js ∧ js.length ≤ 200 ∧ (∀ m, has js m ↔ has ps m ∧ has qs m) ∧ f [dS ps, dS qs] = .ok (tS js)
theorem g_met {fn fo : List D → RE} (en : HNeed fn) (eo : HOv fo) : HMet (G_met fn fo) := by
  intro ps qs g1 g2
  have l1 := g1.len
  have l2 := g2.len
  have n1 := en ps g1
  have n2 := en qs g2
  have l3 := ov_len (ps := ps) (qs := qs)
  refine ⟨ov ps qs, ov_can g1.can.row g2.can.row, by omega, fun m => ov_has g1.can.row g2.can.row m, ?_⟩
  have ho := eo ps qs (by omega) (by omega)
  unfold G_met
  apply mDef_rt
  refine mSeq_step (e1 := [some (.p (dS ps)), some (.p (dS qs))]) (by simp only [mDef, env0, mSeq, mAsg, mAsgF, mAsgT, mB, mV, mC, mRet, mRetV, mIfS, asB, mCall, mCons, mNil, mConsT, mNilT, mL, mTup, mCB, mIf, mNot, mAnd, mOr, mTru, mAndV, mOrV, mNotV, mU, mChI, mO, mSl, mFrz, mBw, mBwB, mNext, frzE, iSeq, iRng1, iRng2, iRng3, iEnumD, iZipD, gN, gT, gC, gNl, mDrop, D.tru, dAdd, dSub, dMul, dMod, dFdiv, dPow, dII, dCmp, dNeg, dIs, dIsNot, D.isN, D.isB, fLen, fMax2, fMin2, T.toD, T.toDs, T.im, T.ims, D.im, D.ims, List.map_cons, List.map_nil, List.length_cons, List.length_nil, List.cons_append, List.nil_append, List.append_nil, List.replicate_zero, List.replicate_succ, List.getElem?_cons_zero, List.getElem?_cons_succ, List.set_cons_zero, List.set_cons_succ, Nat.reduceAdd, Nat.reduceSub, Nat.reduceLT, Nat.reduceLeDiff, Nat.zero_add, Nat.sub_self, Option.map_some, Option.map_none, if_true, if_false, decide_true, decide_false, Bool.and_true, Bool.true_and, Bool.false_and, Bool.and_false, Bool.not_true, Bool.not_false, reduceIte, reduceCtorEq, szl, Nat.zero_le, List.length_map, dEq, dNe, dIx, dSl, toDs_p, toDs_g, toDs_gi, toDs_gp, List.map_map, Int.reduceLT, Int.reduceLE, Int.reduceAdd, Int.reduceSub, decide_not, dEqB_nn, dEqB_ints0, dEqB_ints, dEqB_int, dEqB_bl, List.map_append, fIsi, D.tyN, Option.bind_some, fSum, fAny, fAll, ints_g, bls_g, D.ints_map, kit_int_int, kit_bool_int, kit_NoneType_int, kit_str_int, kit_list_int, kit_tuple_int, kit_dict_int, kit_int_bool, kit_bool_bool, kit_NoneType_bool, kit_str_bool, kit_list_bool, kit_tuple_bool, kit_dict_bool, kit_int_list, kit_bool_list, kit_NoneType_list, kit_str_list, kit_list_list, kit_tuple_list, kit_dict_list, kit_int_tuple, kit_bool_tuple, kit_NoneType_tuple, kit_str_tuple, kit_list_tuple, kit_tuple_tuple, kit_dict_tuple, kit_int_str, kit_bool_str, kit_NoneType_str, kit_str_str, kit_list_str, kit_tuple_str, kit_dict_str, nc0, nc1, nc2, nc3, nc4, nc5, nc6, nc7, nc8, toDs_c, dEqB_dS0, fMin1, fMax1, toDs_append, n1]) ?_
  refine mSeq_step (e1 := [some (.p (dS ps)), some (.p (dS qs))]) (by simp only [mDef, env0, mSeq, mAsg, mAsgF, mAsgT, mB, mV, mC, mRet, mRetV, mIfS, asB, mCall, mCons, mNil, mConsT, mNilT, mL, mTup, mCB, mIf, mNot, mAnd, mOr, mTru, mAndV, mOrV, mNotV, mU, mChI, mO, mSl, mFrz, mBw, mBwB, mNext, frzE, iSeq, iRng1, iRng2, iRng3, iEnumD, iZipD, gN, gT, gC, gNl, mDrop, D.tru, dAdd, dSub, dMul, dMod, dFdiv, dPow, dII, dCmp, dNeg, dIs, dIsNot, D.isN, D.isB, fLen, fMax2, fMin2, T.toD, T.toDs, T.im, T.ims, D.im, D.ims, List.map_cons, List.map_nil, List.length_cons, List.length_nil, List.cons_append, List.nil_append, List.append_nil, List.replicate_zero, List.replicate_succ, List.getElem?_cons_zero, List.getElem?_cons_succ, List.set_cons_zero, List.set_cons_succ, Nat.reduceAdd, Nat.reduceSub, Nat.reduceLT, Nat.reduceLeDiff, Nat.zero_add, Nat.sub_self, Option.map_some, Option.map_none, if_true, if_false, decide_true, decide_false, Bool.and_true, Bool.true_and, Bool.false_and, Bool.and_false, Bool.not_true, Bool.not_false, reduceIte, reduceCtorEq, szl, Nat.zero_le, List.length_map, dEq, dNe, dIx, dSl, toDs_p, toDs_g, toDs_gi, toDs_gp, List.map_map, Int.reduceLT, Int.reduceLE, Int.reduceAdd, Int.reduceSub, decide_not, dEqB_nn, dEqB_ints0, dEqB_ints, dEqB_int, dEqB_bl, List.map_append, fIsi, D.tyN, Option.bind_some, fSum, fAny, fAll, ints_g, bls_g, D.ints_map, kit_int_int, kit_bool_int, kit_NoneType_int, kit_str_int, kit_list_int, kit_tuple_int, kit_dict_int, kit_int_bool, kit_bool_bool, kit_NoneType_bool, kit_str_bool, kit_list_bool, kit_tuple_bool, kit_dict_bool, kit_int_list, kit_bool_list, kit_NoneType_list, kit_str_list, kit_list_list, kit_tuple_list, kit_dict_list, kit_int_tuple, kit_bool_tuple, kit_NoneType_tuple, kit_str_tuple, kit_list_tuple, kit_tuple_tuple, kit_dict_tuple, kit_int_str, kit_bool_str, kit_NoneType_str, kit_str_str, kit_list_str, kit_tuple_str, kit_dict_str, nc0, nc1, nc2, nc3, nc4, nc5, nc6, nc7, nc8, toDs_c, dEqB_dS0, fMin1, fMax1, toDs_append, n2]) ?_
  simp only [mDef, env0, mSeq, mAsg, mAsgF, mAsgT, mB, mV, mC, mRet, mRetV, mIfS, asB, mCall, mCons, mNil, mConsT, mNilT, mL, mTup, mCB, mIf, mNot, mAnd, mOr, mTru, mAndV, mOrV, mNotV, mU, mChI, mO, mSl, mFrz, mBw, mBwB, mNext, frzE, iSeq, iRng1, iRng2, iRng3, iEnumD, iZipD, gN, gT, gC, gNl, mDrop, D.tru, dAdd, dSub, dMul, dMod, dFdiv, dPow, dII, dCmp, dNeg, dIs, dIsNot, D.isN, D.isB, fLen, fMax2, fMin2, T.toD, T.toDs, T.im, T.ims, D.im, D.ims, List.map_cons, List.map_nil, List.length_cons, List.length_nil, List.cons_append, List.nil_append, List.append_nil, List.replicate_zero, List.replicate_succ, List.getElem?_cons_zero, List.getElem?_cons_succ, List.set_cons_zero, List.set_cons_succ, Nat.reduceAdd, Nat.reduceSub, Nat.reduceLT, Nat.reduceLeDiff, Nat.zero_add, Nat.sub_self, Option.map_some, Option.map_none, if_true, if_false, decide_true, decide_false, Bool.and_true, Bool.true_and, Bool.false_and, Bool.and_false, Bool.not_true, Bool.not_false, reduceIte, reduceCtorEq, szl, Nat.zero_le, List.length_map, dEq, dNe, dIx, dSl, toDs_p, toDs_g, toDs_gi, toDs_gp, List.map_map, Int.reduceLT, Int.reduceLE, Int.reduceAdd, Int.reduceSub, decide_not, dEqB_nn, dEqB_ints0, dEqB_ints, dEqB_int, dEqB_bl, List.map_append, fIsi, D.tyN, Option.bind_some, fSum, fAny, fAll, ints_g, bls_g, D.ints_map, kit_int_int, kit_bool_int, kit_NoneType_int, kit_str_int, kit_list_int, kit_tuple_int, kit_dict_int, kit_int_bool, kit_bool_bool, kit_NoneType_bool, kit_str_bool, kit_list_bool, kit_tuple_bool, kit_dict_bool, kit_int_list, kit_bool_list, kit_NoneType_list, kit_str_list, kit_list_list, kit_tuple_list, kit_dict_list, kit_int_tuple, kit_bool_tuple, kit_NoneType_tuple, kit_str_tuple, kit_list_tuple, kit_tuple_tuple, kit_dict_tuple, kit_int_str, kit_bool_str, kit_NoneType_str, kit_str_str, kit_list_str, kit_tuple_str, kit_dict_str, nc0, nc1, nc2, nc3, nc4, nc5, nc6, nc7, nc8, toDs_c, dEqB_dS0, fMin1, fMax1, toDs_append, ho]
abbrev HWithout (f : List D → RE) : Prop := ∀ ps qs, Good ps → Good qs → ∃ js, Can js ∧ js.length ≤ 200 ∧ (∀ m, has js m ↔ has ps m ∧ ¬ has qs m) ∧ f [dS ps, dS qs] = .ok (tS js)
theorem g_without {fn fo fg : List D → RE} (en : HNeed fn) (eo : HOv fo) (eg : HGaps fg) : HWithout (G_without fn fo fg) := by
  intro ps qs g1 g2
  have l1 := g1.len
  have l2 := g2.len
  have n1 := en ps g1
  have n2 := en qs g2
  have l4 := gp_len qs 0 1000000
  have l3 := ov_len (ps := ps) (qs := gp 0 qs 1000000)
  have bq : ∀ p ∈ qs, 0 ≤ p.1 ∧ p.2 ≤ 1000000 := fun p hp => ⟨(g2.bd p hp).1, (g2.bd p hp).2.2⟩
  have rq := gp_row (f := 0) (l := 1000000) g2.can bq (by decide)
  obtain ⟨t, ht, htd⟩ := eg qs 0 1000000 (by omega)
  refine ⟨ov ps (gp 0 qs 1000000), ov_can g1.can.row rq, by omega, fun m => ?_, ?_⟩
  · rw [ov_has g1.can.row rq m, gp_has g2.can bq m]
    constructor
    · rintro ⟨a, b, c⟩; exact ⟨a, c⟩
    · rintro ⟨a, c⟩
      obtain ⟨p, hp, x, y⟩ := a
      have := g1.bd p hp
      exact ⟨⟨p, hp, x, y⟩, by omega, c⟩
  have ho := eo ps (gp 0 qs 1000000) (by omega) (by omega)
  unfold G_without
  apply mDef_rt
  refine mSeq_step (e1 := [some (.p (dS ps)), some (.p (dS qs))]) (by simp only [mDef, env0, mSeq, mAsg, mAsgF, mAsgT, mB, mV, mC, mRet, mRetV, mIfS, asB, mCall, mCons, mNil, mConsT, mNilT, mL, mTup, mCB, mIf, mNot, mAnd, mOr, mTru, mAndV, mOrV, mNotV, mU, mChI, mO, mSl, mFrz, mBw, mBwB, mNext, frzE, iSeq, iRng1, iRng2, iRng3, iEnumD, iZipD, gN, gT, gC, gNl, mDrop, D.tru, dAdd, dSub, dMul, dMod, dFdiv, dPow, dII, dCmp, dNeg, dIs, dIsNot, D.isN, D.isB, fLen, fMax2, fMin2, T.toD, T.toDs, T.im, T.ims, D.im, D.ims, List.map_cons, List.map_nil, List.length_cons, List.length_nil, List.cons_append, List.nil_append, List.append_nil, List.replicate_zero, List.replicate_succ, List.getElem?_cons_zero, List.getElem?_cons_succ, List.set_cons_zero, List.set_cons_succ, Nat.reduceAdd, Nat.reduceSub, Nat.reduceLT, Nat.reduceLeDiff, Nat.zero_add, Nat.sub_self, Option.map_some, Option.map_none, if_true, if_false, decide_true, decide_false, Bool.and_true, Bool.true_and, Bool.false_and, Bool.and_false, Bool.not_true, Bool.not_false, reduceIte, reduceCtorEq, szl, Nat.zero_le, List.length_map, dEq, dNe, dIx, dSl, toDs_p, toDs_g, toDs_gi, toDs_gp, List.map_map, Int.reduceLT, Int.reduceLE, Int.reduceAdd, Int.reduceSub, decide_not, dEqB_nn, dEqB_ints0, dEqB_ints, dEqB_int, dEqB_bl, List.map_append, fIsi, D.tyN, Option.bind_some, fSum, fAny, fAll, ints_g, bls_g, D.ints_map, kit_int_int, kit_bool_int, kit_NoneType_int, kit_str_int, kit_list_int, kit_tuple_int, kit_dict_int, kit_int_bool, kit_bool_bool, kit_NoneType_bool, kit_str_bool, kit_list_bool, kit_tuple_bool, kit_dict_bool, kit_int_list, kit_bool_list, kit_NoneType_list, kit_str_list, kit_list_list, kit_tuple_list, kit_dict_list, kit_int_tuple, kit_bool_tuple, kit_NoneType_tuple, kit_str_tuple, kit_list_tuple, kit_tuple_tuple, kit_dict_tuple, kit_int_str, kit_bool_str, kit_NoneType_str, kit_str_str, kit_list_str, kit_tuple_str, kit_dict_str, nc0, nc1, nc2, nc3, nc4, nc5, nc6, nc7, nc8, toDs_c, dEqB_dS0, fMin1, fMax1, toDs_append, n1]) ?_
  refine mSeq_step (e1 := [some (.p (dS ps)), some (.p (dS qs))]) (by simp only [mDef, env0, mSeq, mAsg, mAsgF, mAsgT, mB, mV, mC, mRet, mRetV, mIfS, asB, mCall, mCons, mNil, mConsT, mNilT, mL, mTup, mCB, mIf, mNot, mAnd, mOr, mTru, mAndV, mOrV, mNotV, mU, mChI, mO, mSl, mFrz, mBw, mBwB, mNext, frzE, iSeq, iRng1, iRng2, iRng3, iEnumD, iZipD, gN, gT, gC, gNl, mDrop, D.tru, dAdd, dSub, dMul, dMod, dFdiv, dPow, dII, dCmp, dNeg, dIs, dIsNot, D.isN, D.isB, fLen, fMax2, fMin2, T.toD, T.toDs, T.im, T.ims, D.im, D.ims, List.map_cons, List.map_nil, List.length_cons, List.length_nil, List.cons_append, List.nil_append, List.append_nil, List.replicate_zero, List.replicate_succ, List.getElem?_cons_zero, List.getElem?_cons_succ, List.set_cons_zero, List.set_cons_succ, Nat.reduceAdd, Nat.reduceSub, Nat.reduceLT, Nat.reduceLeDiff, Nat.zero_add, Nat.sub_self, Option.map_some, Option.map_none, if_true, if_false, decide_true, decide_false, Bool.and_true, Bool.true_and, Bool.false_and, Bool.and_false, Bool.not_true, Bool.not_false, reduceIte, reduceCtorEq, szl, Nat.zero_le, List.length_map, dEq, dNe, dIx, dSl, toDs_p, toDs_g, toDs_gi, toDs_gp, List.map_map, Int.reduceLT, Int.reduceLE, Int.reduceAdd, Int.reduceSub, decide_not, dEqB_nn, dEqB_ints0, dEqB_ints, dEqB_int, dEqB_bl, List.map_append, fIsi, D.tyN, Option.bind_some, fSum, fAny, fAll, ints_g, bls_g, D.ints_map, kit_int_int, kit_bool_int, kit_NoneType_int, kit_str_int, kit_list_int, kit_tuple_int, kit_dict_int, kit_int_bool, kit_bool_bool, kit_NoneType_bool, kit_str_bool, kit_list_bool, kit_tuple_bool, kit_dict_bool, kit_int_list, kit_bool_list, kit_NoneType_list, kit_str_list, kit_list_list, kit_tuple_list, kit_dict_list, kit_int_tuple, kit_bool_tuple, kit_NoneType_tuple, kit_str_tuple, kit_list_tuple, kit_tuple_tuple, kit_dict_tuple, kit_int_str, kit_bool_str, kit_NoneType_str, kit_str_str, kit_list_str, kit_tuple_str, kit_dict_str, nc0, nc1, nc2, nc3, nc4, nc5, nc6, nc7, nc8, toDs_c, dEqB_dS0, fMin1, fMax1, toDs_append, n2]) ?_
  simp only [mDef, env0, mSeq, mAsg, mAsgF, mAsgT, mB, mV, mC, mRet, mRetV, mIfS, asB, mCall, mCons, mNil, mConsT, mNilT, mL, mTup, mCB, mIf, mNot, mAnd, mOr, mTru, mAndV, mOrV, mNotV, mU, mChI, mO, mSl, mFrz, mBw, mBwB, mNext, frzE, iSeq, iRng1, iRng2, iRng3, iEnumD, iZipD, gN, gT, gC, gNl, mDrop, D.tru, dAdd, dSub, dMul, dMod, dFdiv, dPow, dII, dCmp, dNeg, dIs, dIsNot, D.isN, D.isB, fLen, fMax2, fMin2, T.toD, T.toDs, T.im, T.ims, D.im, D.ims, List.map_cons, List.map_nil, List.length_cons, List.length_nil, List.cons_append, List.nil_append, List.append_nil, List.replicate_zero, List.replicate_succ, List.getElem?_cons_zero, List.getElem?_cons_succ, List.set_cons_zero, List.set_cons_succ, Nat.reduceAdd, Nat.reduceSub, Nat.reduceLT, Nat.reduceLeDiff, Nat.zero_add, Nat.sub_self, Option.map_some, Option.map_none, if_true, if_false, decide_true, decide_false, Bool.and_true, Bool.true_and, Bool.false_and, Bool.and_false, Bool.not_true, Bool.not_false, reduceIte, reduceCtorEq, szl, Nat.zero_le, List.length_map, dEq, dNe, dIx, dSl, toDs_p, toDs_g, toDs_gi, toDs_gp, List.map_map, Int.reduceLT, Int.reduceLE, Int.reduceAdd, Int.reduceSub, decide_not, dEqB_nn, dEqB_ints0, dEqB_ints, dEqB_int, dEqB_bl, List.map_append, fIsi, D.tyN, Option.bind_some, fSum, fAny, fAll, ints_g, bls_g, D.ints_map, kit_int_int, kit_bool_int, kit_NoneType_int, kit_str_int, kit_list_int, kit_tuple_int, kit_dict_int, kit_int_bool, kit_bool_bool, kit_NoneType_bool, kit_str_bool, kit_list_bool, kit_tuple_bool, kit_dict_bool, kit_int_list, kit_bool_list, kit_NoneType_list, kit_str_list, kit_list_list, kit_tuple_list, kit_dict_list, kit_int_tuple, kit_bool_tuple, kit_NoneType_tuple, kit_str_tuple, kit_list_tuple, kit_tuple_tuple, kit_dict_tuple, kit_int_str, kit_bool_str, kit_NoneType_str, kit_str_str, kit_list_str, kit_tuple_str, kit_dict_str, nc0, nc1, nc2, nc3, nc4, nc5, nc6, nc7, nc8, toDs_c, dEqB_dS0, fMin1, fMax1, toDs_append, ht, htd, ho]
end Nd

namespace Nd
open PySem L2
abbrev dEv (e : Ev) : D := dRow [e.1, e.2.1, e.2.2]
abbrev wtL (ws : List (Int × Int)) (i j : Int) : Bool := ws.any fun z => decide (z = (i, j))
abbrev HBy (f : List D → RE) : Prop := ∀ (ps qs ws : List (Int × Int)), Good ps → Good qs → wtL ws 0 0 = false → ∃ js, Can js ∧ js.length ≤ 300 ∧ (∀ t, has js t ↔ bW (wtL ws) ps qs t) ∧ f [dS ps, dS qs, dS ws] = .ok (tS js)
theorem byF_len (wt : Int → Int → Bool) : ∀ (r : List Ev) (h0 h1 : Int) (out : List (Int × Int)), (byF wt h0 h1 out r).length ≤ out.length + r.length
  | [], _, _, out => by simp [byF]
  | [e], _, _, out => by obtain ⟨m, w, o⟩ := e; show out.length ≤ _; omega
  | e :: e2 :: r, h0, h1, out => by
    obtain ⟨m, w, o⟩ := e
    obtain ⟨k, w2, o2⟩ := e2
    rw [byF_cons]
    have ih := byF_len wt ((k, w2, o2) :: r) (if w = 0 then o else h0) (if w = 1 then o else h1) (if k > m ∧ wt (if w = 0 then o else h0) (if w = 1 then o else h1) = true then addS out m k else out)
    have al : (addS out m k).length ≤ out.length + 1 := by
      rcases List.eq_nil_or_concat out with h0 | ⟨ps, q, h0⟩
      · subst h0; simp [addS]
      · rw [List.concat_eq_append] at h0
        subst h0
        rw [addS_snoc]
        split
        · simp
        · simp
    have : (if k > m ∧ wt (if w = 0 then o else h0) (if w = 1 then o else h1) = true then addS out m k else out).length ≤ out.length + 1 := by
      by_cases c : k > m ∧ wt (if w = 0 then o else h0) (if w = 1 then o else h1) = true
      · rw [if_pos c]; exact al
      · rw [if_neg c]; omega
    simp only [List.length_cons] at *
    omega
theorem g_by : HBy G__law_by := by
  intro ps qs ws g1 g2 h00
  have l1 := g1.len
  have l2 := g2.len
  have el0 : (evs 0 ps ++ evs 1 qs).length = 2 * ps.length + 2 * qs.length := by unfold evs; simp only [List.length_append, List.length_map]; omega
  obtain ⟨E, perm, ord, hs⟩ := fSorted_rows (fun e : Ev => [e.1, e.2.1, e.2.2]) (fun _ h => by cases h) (evs 0 ps ++ evs 1 qs) (by rw [szl, el0]; omega)
  have el : E.length = 2 * ps.length + 2 * qs.length := by rw [perm.length_eq, el0]
  have hE : Evs ps qs E := ⟨fun e => by rw [perm.mem_iff, List.mem_append], ord.imp fun h => row_le h⟩
  obtain ⟨b1, b2⟩ := by_all h00 g1.can g2.can hE
  have bl := byF_len (wtL ws) E 0 0 []
  refine ⟨byF (wtL ws) 0 0 [] E, b1, by simp only [List.length_nil] at bl; omega, b2, ?_⟩
  obtain ⟨fin, hfin⟩ : ∃ fin, fin = byF (wtL ws) 0 0 [] E := ⟨_, rfl⟩
  rw [← hfin]
  unfold G__law_by
  apply mDef_rt
  have cb : ∀ (i : Nat) (n : Int) (x3 : Option T) (w o : Int), (i = 0 ∧ n = 0 ∨ i = 1 ∧ n = 1) → ∀ rs : List (Int × Int), (i = 0 → rs = ps) → (i = 1 → rs = qs) → mLc [11, 12] (iSeq (mV i)) (gT 2 (gC (gN 11) (gC (gN 12) gNl))) (fun _ => RB.ok true) (mTup (mCons (mV 11) (mCons (mC (.int w)) (mCons (mC (.int o)) mNil)))) [some (.p (dS ps)), some (.p (dS qs)), some (.p (dS ws)), x3, none, none, none, none, none, none, none, none, none] = .ok (.l (rs.map fun p => .p (dEv (p.1, w, o)))) ∧
      mLc [11, 12] (iSeq (mV i)) (gT 2 (gC (gN 11) (gC (gN 12) gNl))) (fun _ => RB.ok true) (mTup (mCons (mV 12) (mCons (mC (.int w)) (mCons (mC (.int o)) mNil)))) [some (.p (dS ps)), some (.p (dS qs)), some (.p (dS ws)), x3, none, none, none, none, none, none, none, none, none] = .ok (.l (rs.map fun p => .p (dEv (p.2, w, o)))) := by
    intro i n x3 w o hi rs r0 r1
    have hr : rs.length < sizeLine := by
      rw [szl]
      rcases hi with ⟨h, _⟩ | ⟨h, _⟩
      · rw [r0 h]; omega
      · rw [r1 h]; omega
    have hi2 : iSeq (mV i) [some (.p (dS ps)), some (.p (dS qs)), some (.p (dS ws)), x3, none, none, none, none, none, none, none, none, none] = .ok (rs.map dP) := by
      rcases hi with ⟨h, _⟩ | ⟨h, _⟩
      · rw [r0 h, h]; simp only [mDef, env0, mSeq, mAsg, mAsgF, mAsgT, mB, mV, mC, mRet, mRetV, mIfS, asB, mCall, mCons, mNil, mConsT, mNilT, mL, mTup, mCB, mIf, mNot, mAnd, mOr, mTru, mAndV, mOrV, mNotV, mU, mChI, mO, mSl, mFrz, mBw, mBwB, mNext, frzE, iSeq, iRng1, iRng2, iRng3, iEnumD, iZipD, gN, gT, gC, gNl, mDrop, D.tru, dAdd, dSub, dMul, dMod, dFdiv, dPow, dII, dCmp, dNeg, dIs, dIsNot, D.isN, D.isB, fLen, fMax2, fMin2, T.toD, T.toDs, T.im, T.ims, D.im, D.ims, List.map_cons, List.map_nil, List.length_cons, List.length_nil, List.cons_append, List.nil_append, List.append_nil, List.replicate_zero, List.replicate_succ, List.getElem?_cons_zero, List.getElem?_cons_succ, List.set_cons_zero, List.set_cons_succ, Nat.reduceAdd, Nat.reduceSub, Nat.reduceLT, Nat.reduceLeDiff, Nat.zero_add, Nat.sub_self, Option.map_some, Option.map_none, if_true, if_false, decide_true, decide_false, Bool.and_true, Bool.true_and, Bool.false_and, Bool.and_false, Bool.not_true, Bool.not_false, reduceIte, reduceCtorEq, szl, Nat.zero_le, List.length_map, dEq, dNe, dIx, dSl, toDs_p, toDs_g, toDs_gi, toDs_gp, List.map_map, Int.reduceLT, Int.reduceLE, Int.reduceAdd, Int.reduceSub, decide_not, dEqB_nn, dEqB_ints0, dEqB_ints, dEqB_int, dEqB_bl, List.map_append, fIsi, D.tyN, Option.bind_some, fSum, fAny, fAll, ints_g, bls_g, D.ints_map, kit_int_int, kit_bool_int, kit_NoneType_int, kit_str_int, kit_list_int, kit_tuple_int, kit_dict_int, kit_int_bool, kit_bool_bool, kit_NoneType_bool, kit_str_bool, kit_list_bool, kit_tuple_bool, kit_dict_bool, kit_int_list, kit_bool_list, kit_NoneType_list, kit_str_list, kit_list_list, kit_tuple_list, kit_dict_list, kit_int_tuple, kit_bool_tuple, kit_NoneType_tuple, kit_str_tuple, kit_list_tuple, kit_tuple_tuple, kit_dict_tuple, kit_int_str, kit_bool_str, kit_NoneType_str, kit_str_str, kit_list_str, kit_tuple_str, kit_dict_str, nc0, nc1, nc2, nc3, nc4, nc5, nc6, nc7, nc8, toDs_c, dEqB_dS0, fMin1, fMax1, toDs_append]
      · rw [r1 h, h]; simp only [mDef, env0, mSeq, mAsg, mAsgF, mAsgT, mB, mV, mC, mRet, mRetV, mIfS, asB, mCall, mCons, mNil, mConsT, mNilT, mL, mTup, mCB, mIf, mNot, mAnd, mOr, mTru, mAndV, mOrV, mNotV, mU, mChI, mO, mSl, mFrz, mBw, mBwB, mNext, frzE, iSeq, iRng1, iRng2, iRng3, iEnumD, iZipD, gN, gT, gC, gNl, mDrop, D.tru, dAdd, dSub, dMul, dMod, dFdiv, dPow, dII, dCmp, dNeg, dIs, dIsNot, D.isN, D.isB, fLen, fMax2, fMin2, T.toD, T.toDs, T.im, T.ims, D.im, D.ims, List.map_cons, List.map_nil, List.length_cons, List.length_nil, List.cons_append, List.nil_append, List.append_nil, List.replicate_zero, List.replicate_succ, List.getElem?_cons_zero, List.getElem?_cons_succ, List.set_cons_zero, List.set_cons_succ, Nat.reduceAdd, Nat.reduceSub, Nat.reduceLT, Nat.reduceLeDiff, Nat.zero_add, Nat.sub_self, Option.map_some, Option.map_none, if_true, if_false, decide_true, decide_false, Bool.and_true, Bool.true_and, Bool.false_and, Bool.and_false, Bool.not_true, Bool.not_false, reduceIte, reduceCtorEq, szl, Nat.zero_le, List.length_map, dEq, dNe, dIx, dSl, toDs_p, toDs_g, toDs_gi, toDs_gp, List.map_map, Int.reduceLT, Int.reduceLE, Int.reduceAdd, Int.reduceSub, decide_not, dEqB_nn, dEqB_ints0, dEqB_ints, dEqB_int, dEqB_bl, List.map_append, fIsi, D.tyN, Option.bind_some, fSum, fAny, fAll, ints_g, bls_g, D.ints_map, kit_int_int, kit_bool_int, kit_NoneType_int, kit_str_int, kit_list_int, kit_tuple_int, kit_dict_int, kit_int_bool, kit_bool_bool, kit_NoneType_bool, kit_str_bool, kit_list_bool, kit_tuple_bool, kit_dict_bool, kit_int_list, kit_bool_list, kit_NoneType_list, kit_str_list, kit_list_list, kit_tuple_list, kit_dict_list, kit_int_tuple, kit_bool_tuple, kit_NoneType_tuple, kit_str_tuple, kit_list_tuple, kit_tuple_tuple, kit_dict_tuple, kit_int_str, kit_bool_str, kit_NoneType_str, kit_str_str, kit_list_str, kit_tuple_str, kit_dict_str, nc0, nc1, nc2, nc3, nc4, nc5, nc6, nc7, nc8, toDs_c, dEqB_dS0, fMin1, fMax1, toDs_append]
    constructor
    · refine mLc_all rs dP (fun p => .p (dEv (p.1, w, o))) hi2 hr ?_
      rintro ⟨x, y⟩ _
      refine ⟨[some (.p (dS ps)), some (.p (dS qs)), some (.p (dS ws)), x3, none, none, none, none, none, none, none, some (.p (.int x)), some (.p (.int y))], by simp only [mDef, env0, mSeq, mAsg, mAsgF, mAsgT, mB, mV, mC, mRet, mRetV, mIfS, asB, mCall, mCons, mNil, mConsT, mNilT, mL, mTup, mCB, mIf, mNot, mAnd, mOr, mTru, mAndV, mOrV, mNotV, mU, mChI, mO, mSl, mFrz, mBw, mBwB, mNext, frzE, iSeq, iRng1, iRng2, iRng3, iEnumD, iZipD, gN, gT, gC, gNl, mDrop, D.tru, dAdd, dSub, dMul, dMod, dFdiv, dPow, dII, dCmp, dNeg, dIs, dIsNot, D.isN, D.isB, fLen, fMax2, fMin2, T.toD, T.toDs, T.im, T.ims, D.im, D.ims, List.map_cons, List.map_nil, List.length_cons, List.length_nil, List.cons_append, List.nil_append, List.append_nil, List.replicate_zero, List.replicate_succ, List.getElem?_cons_zero, List.getElem?_cons_succ, List.set_cons_zero, List.set_cons_succ, Nat.reduceAdd, Nat.reduceSub, Nat.reduceLT, Nat.reduceLeDiff, Nat.zero_add, Nat.sub_self, Option.map_some, Option.map_none, if_true, if_false, decide_true, decide_false, Bool.and_true, Bool.true_and, Bool.false_and, Bool.and_false, Bool.not_true, Bool.not_false, reduceIte, reduceCtorEq, szl, Nat.zero_le, List.length_map, dEq, dNe, dIx, dSl, toDs_p, toDs_g, toDs_gi, toDs_gp, List.map_map, Int.reduceLT, Int.reduceLE, Int.reduceAdd, Int.reduceSub, decide_not, dEqB_nn, dEqB_ints0, dEqB_ints, dEqB_int, dEqB_bl, List.map_append, fIsi, D.tyN, Option.bind_some, fSum, fAny, fAll, ints_g, bls_g, D.ints_map, kit_int_int, kit_bool_int, kit_NoneType_int, kit_str_int, kit_list_int, kit_tuple_int, kit_dict_int, kit_int_bool, kit_bool_bool, kit_NoneType_bool, kit_str_bool, kit_list_bool, kit_tuple_bool, kit_dict_bool, kit_int_list, kit_bool_list, kit_NoneType_list, kit_str_list, kit_list_list, kit_tuple_list, kit_dict_list, kit_int_tuple, kit_bool_tuple, kit_NoneType_tuple, kit_str_tuple, kit_list_tuple, kit_tuple_tuple, kit_dict_tuple, kit_int_str, kit_bool_str, kit_NoneType_str, kit_str_str, kit_list_str, kit_tuple_str, kit_dict_str, nc0, nc1, nc2, nc3, nc4, nc5, nc6, nc7, nc8, toDs_c, dEqB_dS0, fMin1, fMax1, toDs_append, wipeE], rfl, ?_⟩
      simp only [mDef, env0, mSeq, mAsg, mAsgF, mAsgT, mB, mV, mC, mRet, mRetV, mIfS, asB, mCall, mCons, mNil, mConsT, mNilT, mL, mTup, mCB, mIf, mNot, mAnd, mOr, mTru, mAndV, mOrV, mNotV, mU, mChI, mO, mSl, mFrz, mBw, mBwB, mNext, frzE, iSeq, iRng1, iRng2, iRng3, iEnumD, iZipD, gN, gT, gC, gNl, mDrop, D.tru, dAdd, dSub, dMul, dMod, dFdiv, dPow, dII, dCmp, dNeg, dIs, dIsNot, D.isN, D.isB, fLen, fMax2, fMin2, T.toD, T.toDs, T.im, T.ims, D.im, D.ims, List.map_cons, List.map_nil, List.length_cons, List.length_nil, List.cons_append, List.nil_append, List.append_nil, List.replicate_zero, List.replicate_succ, List.getElem?_cons_zero, List.getElem?_cons_succ, List.set_cons_zero, List.set_cons_succ, Nat.reduceAdd, Nat.reduceSub, Nat.reduceLT, Nat.reduceLeDiff, Nat.zero_add, Nat.sub_self, Option.map_some, Option.map_none, if_true, if_false, decide_true, decide_false, Bool.and_true, Bool.true_and, Bool.false_and, Bool.and_false, Bool.not_true, Bool.not_false, reduceIte, reduceCtorEq, szl, Nat.zero_le, List.length_map, dEq, dNe, dIx, dSl, toDs_p, toDs_g, toDs_gi, toDs_gp, List.map_map, Int.reduceLT, Int.reduceLE, Int.reduceAdd, Int.reduceSub, decide_not, dEqB_nn, dEqB_ints0, dEqB_ints, dEqB_int, dEqB_bl, List.map_append, fIsi, D.tyN, Option.bind_some, fSum, fAny, fAll, ints_g, bls_g, D.ints_map, kit_int_int, kit_bool_int, kit_NoneType_int, kit_str_int, kit_list_int, kit_tuple_int, kit_dict_int, kit_int_bool, kit_bool_bool, kit_NoneType_bool, kit_str_bool, kit_list_bool, kit_tuple_bool, kit_dict_bool, kit_int_list, kit_bool_list, kit_NoneType_list, kit_str_list, kit_list_list, kit_tuple_list, kit_dict_list, kit_int_tuple, kit_bool_tuple, kit_NoneType_tuple, kit_str_tuple, kit_list_tuple, kit_tuple_tuple, kit_dict_tuple, kit_int_str, kit_bool_str, kit_NoneType_str, kit_str_str, kit_list_str, kit_tuple_str, kit_dict_str, nc0, nc1, nc2, nc3, nc4, nc5, nc6, nc7, nc8, toDs_c, dEqB_dS0, fMin1, fMax1, toDs_append]
      rfl
    · refine mLc_all rs dP (fun p => .p (dEv (p.2, w, o))) hi2 hr ?_
      rintro ⟨x, y⟩ _
      refine ⟨[some (.p (dS ps)), some (.p (dS qs)), some (.p (dS ws)), x3, none, none, none, none, none, none, none, some (.p (.int x)), some (.p (.int y))], by simp only [mDef, env0, mSeq, mAsg, mAsgF, mAsgT, mB, mV, mC, mRet, mRetV, mIfS, asB, mCall, mCons, mNil, mConsT, mNilT, mL, mTup, mCB, mIf, mNot, mAnd, mOr, mTru, mAndV, mOrV, mNotV, mU, mChI, mO, mSl, mFrz, mBw, mBwB, mNext, frzE, iSeq, iRng1, iRng2, iRng3, iEnumD, iZipD, gN, gT, gC, gNl, mDrop, D.tru, dAdd, dSub, dMul, dMod, dFdiv, dPow, dII, dCmp, dNeg, dIs, dIsNot, D.isN, D.isB, fLen, fMax2, fMin2, T.toD, T.toDs, T.im, T.ims, D.im, D.ims, List.map_cons, List.map_nil, List.length_cons, List.length_nil, List.cons_append, List.nil_append, List.append_nil, List.replicate_zero, List.replicate_succ, List.getElem?_cons_zero, List.getElem?_cons_succ, List.set_cons_zero, List.set_cons_succ, Nat.reduceAdd, Nat.reduceSub, Nat.reduceLT, Nat.reduceLeDiff, Nat.zero_add, Nat.sub_self, Option.map_some, Option.map_none, if_true, if_false, decide_true, decide_false, Bool.and_true, Bool.true_and, Bool.false_and, Bool.and_false, Bool.not_true, Bool.not_false, reduceIte, reduceCtorEq, szl, Nat.zero_le, List.length_map, dEq, dNe, dIx, dSl, toDs_p, toDs_g, toDs_gi, toDs_gp, List.map_map, Int.reduceLT, Int.reduceLE, Int.reduceAdd, Int.reduceSub, decide_not, dEqB_nn, dEqB_ints0, dEqB_ints, dEqB_int, dEqB_bl, List.map_append, fIsi, D.tyN, Option.bind_some, fSum, fAny, fAll, ints_g, bls_g, D.ints_map, kit_int_int, kit_bool_int, kit_NoneType_int, kit_str_int, kit_list_int, kit_tuple_int, kit_dict_int, kit_int_bool, kit_bool_bool, kit_NoneType_bool, kit_str_bool, kit_list_bool, kit_tuple_bool, kit_dict_bool, kit_int_list, kit_bool_list, kit_NoneType_list, kit_str_list, kit_list_list, kit_tuple_list, kit_dict_list, kit_int_tuple, kit_bool_tuple, kit_NoneType_tuple, kit_str_tuple, kit_list_tuple, kit_tuple_tuple, kit_dict_tuple, kit_int_str, kit_bool_str, kit_NoneType_str, kit_str_str, kit_list_str, kit_tuple_str, kit_dict_str, nc0, nc1, nc2, nc3, nc4, nc5, nc6, nc7, nc8, toDs_c, dEqB_dS0, fMin1, fMax1, toDs_append, wipeE], rfl, ?_⟩
      simp only [mDef, env0, mSeq, mAsg, mAsgF, mAsgT, mB, mV, mC, mRet, mRetV, mIfS, asB, mCall, mCons, mNil, mConsT, mNilT, mL, mTup, mCB, mIf, mNot, mAnd, mOr, mTru, mAndV, mOrV, mNotV, mU, mChI, mO, mSl, mFrz, mBw, mBwB, mNext, frzE, iSeq, iRng1, iRng2, iRng3, iEnumD, iZipD, gN, gT, gC, gNl, mDrop, D.tru, dAdd, dSub, dMul, dMod, dFdiv, dPow, dII, dCmp, dNeg, dIs, dIsNot, D.isN, D.isB, fLen, fMax2, fMin2, T.toD, T.toDs, T.im, T.ims, D.im, D.ims, List.map_cons, List.map_nil, List.length_cons, List.length_nil, List.cons_append, List.nil_append, List.append_nil, List.replicate_zero, List.replicate_succ, List.getElem?_cons_zero, List.getElem?_cons_succ, List.set_cons_zero, List.set_cons_succ, Nat.reduceAdd, Nat.reduceSub, Nat.reduceLT, Nat.reduceLeDiff, Nat.zero_add, Nat.sub_self, Option.map_some, Option.map_none, if_true, if_false, decide_true, decide_false, Bool.and_true, Bool.true_and, Bool.false_and, Bool.and_false, Bool.not_true, Bool.not_false, reduceIte, reduceCtorEq, szl, Nat.zero_le, List.length_map, dEq, dNe, dIx, dSl, toDs_p, toDs_g, toDs_gi, toDs_gp, List.map_map, Int.reduceLT, Int.reduceLE, Int.reduceAdd, Int.reduceSub, decide_not, dEqB_nn, dEqB_ints0, dEqB_ints, dEqB_int, dEqB_bl, List.map_append, fIsi, D.tyN, Option.bind_some, fSum, fAny, fAll, ints_g, bls_g, D.ints_map, kit_int_int, kit_bool_int, kit_NoneType_int, kit_str_int, kit_list_int, kit_tuple_int, kit_dict_int, kit_int_bool, kit_bool_bool, kit_NoneType_bool, kit_str_bool, kit_list_bool, kit_tuple_bool, kit_dict_bool, kit_int_list, kit_bool_list, kit_NoneType_list, kit_str_list, kit_list_list, kit_tuple_list, kit_dict_list, kit_int_tuple, kit_bool_tuple, kit_NoneType_tuple, kit_str_tuple, kit_list_tuple, kit_tuple_tuple, kit_dict_tuple, kit_int_str, kit_bool_str, kit_NoneType_str, kit_str_str, kit_list_str, kit_tuple_str, kit_dict_str, nc0, nc1, nc2, nc3, nc4, nc5, nc6, nc7, nc8, toDs_c, dEqB_dS0, fMin1, fMax1, toDs_append]
      rfl
  have td : ∀ (rs : List (Int × Int)) (g : Int × Int → Ev), (T.l (rs.map fun p => T.p (dEv (g p)))).toD = .lst ((rs.map g).map dEv) := fun rs g => by
    rw [toD_lg (fun p => dEv (g p)), List.map_map]; rfl
  refine mSeq_step (e1 := [some (.p (dS ps)), some (.p (dS qs)), some (.p (dS ws)), some (.p (.lst ((evs 0 ps).map dEv))), none, none, none, none, none, none, none, none, none]) ?_ ?_
  · obtain ⟨c1, _⟩ := cb 0 0 none 0 1 (.inl ⟨rfl, rfl⟩) ps (fun _ => rfl) (fun h => by cases h)
    obtain ⟨_, c2⟩ := cb 0 0 none 0 0 (.inl ⟨rfl, rfl⟩) ps (fun _ => rfl) (fun h => by cases h)
    have e1 := add_ll c1 (td ps fun p => (p.1, 0, 1)) c2 (td ps fun p => (p.2, 0, 0)) (by simp only [List.length_map]; omega)
    have e2 := mAsgF_ok (i := 3) e1 (by simp)
    rw [toD_lp, ← List.map_append] at e2
    exact e2
  refine mSeq_step (e1 := [some (.p (dS ps)), some (.p (dS qs)), some (.p (dS ws)), some (.p (.lst (E.map dEv))), none, none, none, none, none, none, none, none, none]) ?_ ?_
  · obtain ⟨c1, _⟩ := cb 1 1 (some (.p (.lst ((evs 0 ps).map dEv)))) 1 1 (.inr ⟨rfl, rfl⟩) qs (fun h => by cases h) (fun _ => rfl)
    obtain ⟨_, c2⟩ := cb 1 1 (some (.p (.lst ((evs 0 ps).map dEv)))) 1 0 (.inr ⟨rfl, rfl⟩) qs (fun h => by cases h) (fun _ => rfl)
    have ev0 : (evs 0 ps).length = 2 * ps.length := by unfold evs; simp only [List.length_append, List.length_map]; omega
    have e1 := add_ll (ma := mV 3) (e := [some (.p (dS ps)), some (.p (dS qs)), some (.p (dS ws)), some (.p (.lst ((evs 0 ps).map dEv))), none, none, none, none, none, none, none, none, none]) (a := .p (.lst ((evs 0 ps).map dEv))) rfl rfl c1 (td qs fun p => (p.1, 1, 1)) (by simp only [List.length_map]; omega)
    have e2 := add_ll e1 (toD_lp _) c2 (td qs fun p => (p.2, 1, 0)) (by simp only [List.length_map, List.length_append]; omega)
    have e3 : (evs 0 ps).map dEv ++ (qs.map fun p => ((p.1, 1, 1) : Ev)).map dEv ++ (qs.map fun p => ((p.2, 1, 0) : Ev)).map dEv = (evs 0 ps ++ evs 1 qs).map dEv := by
      unfold evs
      simp only [List.map_append, List.append_assoc]
    rw [e3] at e2
    have e4 := mCons_ok (ms := mNil) e2 rfl
    rw [toD_lp] at e4
    have e5 := mAsgF_ok (i := 3) (mCB_ok (f := fSorted) e4 hs) (by simp)
    rw [toD_lg (fun e : Ev => dEv e)] at e5
    exact e5
  refine mSeq_step (e1 := [some (.p (dS ps)), some (.p (dS qs)), some (.p (dS ws)), some (.p (.lst (E.map dEv))), some (.l [.p (.int 0), .p (.int 0)]), none, none, none, none, none, none, none, none]) (by simp only [mDef, env0, mSeq, mAsg, mAsgF, mAsgT, mB, mV, mC, mRet, mRetV, mIfS, asB, mCall, mCons, mNil, mConsT, mNilT, mL, mTup, mCB, mIf, mNot, mAnd, mOr, mTru, mAndV, mOrV, mNotV, mU, mChI, mO, mSl, mFrz, mBw, mBwB, mNext, frzE, iSeq, iRng1, iRng2, iRng3, iEnumD, iZipD, gN, gT, gC, gNl, mDrop, D.tru, dAdd, dSub, dMul, dMod, dFdiv, dPow, dII, dCmp, dNeg, dIs, dIsNot, D.isN, D.isB, fLen, fMax2, fMin2, T.toD, T.toDs, T.im, T.ims, D.im, D.ims, List.map_cons, List.map_nil, List.length_cons, List.length_nil, List.cons_append, List.nil_append, List.append_nil, List.replicate_zero, List.replicate_succ, List.getElem?_cons_zero, List.getElem?_cons_succ, List.set_cons_zero, List.set_cons_succ, Nat.reduceAdd, Nat.reduceSub, Nat.reduceLT, Nat.reduceLeDiff, Nat.zero_add, Nat.sub_self, Option.map_some, Option.map_none, if_true, if_false, decide_true, decide_false, Bool.and_true, Bool.true_and, Bool.false_and, Bool.and_false, Bool.not_true, Bool.not_false, reduceIte, reduceCtorEq, szl, Nat.zero_le, List.length_map, dEq, dNe, dIx, dSl, toDs_p, toDs_g, toDs_gi, toDs_gp, List.map_map, Int.reduceLT, Int.reduceLE, Int.reduceAdd, Int.reduceSub, decide_not, dEqB_nn, dEqB_ints0, dEqB_ints, dEqB_int, dEqB_bl, List.map_append, fIsi, D.tyN, Option.bind_some, fSum, fAny, fAll, ints_g, bls_g, D.ints_map, kit_int_int, kit_bool_int, kit_NoneType_int, kit_str_int, kit_list_int, kit_tuple_int, kit_dict_int, kit_int_bool, kit_bool_bool, kit_NoneType_bool, kit_str_bool, kit_list_bool, kit_tuple_bool, kit_dict_bool, kit_int_list, kit_bool_list, kit_NoneType_list, kit_str_list, kit_list_list, kit_tuple_list, kit_dict_list, kit_int_tuple, kit_bool_tuple, kit_NoneType_tuple, kit_str_tuple, kit_list_tuple, kit_tuple_tuple, kit_dict_tuple, kit_int_str, kit_bool_str, kit_NoneType_str, kit_str_str, kit_list_str, kit_tuple_str, kit_dict_str, nc0, nc1, nc2, nc3, nc4, nc5, nc6, nc7, nc8, toDs_c, dEqB_dS0, fMin1, fMax1, toDs_append]) ?_
  refine mSeq_step (e1 := [some (.p (dS ps)), some (.p (dS qs)), some (.p (dS ws)), some (.p (.lst (E.map dEv))), some (.l [.p (.int 0), .p (.int 0)]), some (.l []), none, none, none, none, none, none, none]) (by simp only [mDef, env0, mSeq, mAsg, mAsgF, mAsgT, mB, mV, mC, mRet, mRetV, mIfS, asB, mCall, mCons, mNil, mConsT, mNilT, mL, mTup, mCB, mIf, mNot, mAnd, mOr, mTru, mAndV, mOrV, mNotV, mU, mChI, mO, mSl, mFrz, mBw, mBwB, mNext, frzE, iSeq, iRng1, iRng2, iRng3, iEnumD, iZipD, gN, gT, gC, gNl, mDrop, D.tru, dAdd, dSub, dMul, dMod, dFdiv, dPow, dII, dCmp, dNeg, dIs, dIsNot, D.isN, D.isB, fLen, fMax2, fMin2, T.toD, T.toDs, T.im, T.ims, D.im, D.ims, List.map_cons, List.map_nil, List.length_cons, List.length_nil, List.cons_append, List.nil_append, List.append_nil, List.replicate_zero, List.replicate_succ, List.getElem?_cons_zero, List.getElem?_cons_succ, List.set_cons_zero, List.set_cons_succ, Nat.reduceAdd, Nat.reduceSub, Nat.reduceLT, Nat.reduceLeDiff, Nat.zero_add, Nat.sub_self, Option.map_some, Option.map_none, if_true, if_false, decide_true, decide_false, Bool.and_true, Bool.true_and, Bool.false_and, Bool.and_false, Bool.not_true, Bool.not_false, reduceIte, reduceCtorEq, szl, Nat.zero_le, List.length_map, dEq, dNe, dIx, dSl, toDs_p, toDs_g, toDs_gi, toDs_gp, List.map_map, Int.reduceLT, Int.reduceLE, Int.reduceAdd, Int.reduceSub, decide_not, dEqB_nn, dEqB_ints0, dEqB_ints, dEqB_int, dEqB_bl, List.map_append, fIsi, D.tyN, Option.bind_some, fSum, fAny, fAll, ints_g, bls_g, D.ints_map, kit_int_int, kit_bool_int, kit_NoneType_int, kit_str_int, kit_list_int, kit_tuple_int, kit_dict_int, kit_int_bool, kit_bool_bool, kit_NoneType_bool, kit_str_bool, kit_list_bool, kit_tuple_bool, kit_dict_bool, kit_int_list, kit_bool_list, kit_NoneType_list, kit_str_list, kit_list_list, kit_tuple_list, kit_dict_list, kit_int_tuple, kit_bool_tuple, kit_NoneType_tuple, kit_str_tuple, kit_list_tuple, kit_tuple_tuple, kit_dict_tuple, kit_int_str, kit_bool_str, kit_NoneType_str, kit_str_str, kit_list_str, kit_tuple_str, kit_dict_str, nc0, nc1, nc2, nc3, nc4, nc5, nc6, nc7, nc8, toDs_c, dEqB_dS0, fMin1, fMax1, toDs_append]) ?_
  refine mSeq_for ((List.range E.length).zip E) (fun p => D.tup [.int (p.1 : Nat), dEv p.2]) (fun rest e => ∃ (P : List Ev) (h0 h1 : Int) (out : List (Int × Int)) (x6 x7 x8 x9 x10 : Option T), E = P ++ rest.map (·.2) ∧ (∀ j (h : j < rest.length), rest[j].1 = P.length + j) ∧ byF (wtL ws) h0 h1 out (rest.map (·.2)) = fin ∧ out.length ≤ P.length ∧
      e = [some (.p (dS ps)), some (.p (dS qs)), some (.p (dS ws)), some (.p (.lst (E.map dEv))), some (.l [.p (.int h0), .p (.int h1)]), some (tS out), x6, x7, x8, x9, x10, none, none]) ?_ ?_ ?_ ?_
  · have := enumD_g dEv E
    simp only [mDef, env0, mSeq, mAsg, mAsgF, mAsgT, mB, mV, mC, mRet, mRetV, mIfS, asB, mCall, mCons, mNil, mConsT, mNilT, mL, mTup, mCB, mIf, mNot, mAnd, mOr, mTru, mAndV, mOrV, mNotV, mU, mChI, mO, mSl, mFrz, mBw, mBwB, mNext, frzE, iSeq, iRng1, iRng2, iRng3, iEnumD, iZipD, gN, gT, gC, gNl, mDrop, D.tru, dAdd, dSub, dMul, dMod, dFdiv, dPow, dII, dCmp, dNeg, dIs, dIsNot, D.isN, D.isB, fLen, fMax2, fMin2, T.toD, T.toDs, T.im, T.ims, D.im, D.ims, List.map_cons, List.map_nil, List.length_cons, List.length_nil, List.cons_append, List.nil_append, List.append_nil, List.replicate_zero, List.replicate_succ, List.getElem?_cons_zero, List.getElem?_cons_succ, List.set_cons_zero, List.set_cons_succ, Nat.reduceAdd, Nat.reduceSub, Nat.reduceLT, Nat.reduceLeDiff, Nat.zero_add, Nat.sub_self, Option.map_some, Option.map_none, if_true, if_false, decide_true, decide_false, Bool.and_true, Bool.true_and, Bool.false_and, Bool.and_false, Bool.not_true, Bool.not_false, reduceIte, reduceCtorEq, szl, Nat.zero_le, List.length_map, dEq, dNe, dIx, dSl, toDs_p, toDs_g, toDs_gi, toDs_gp, List.map_map, Int.reduceLT, Int.reduceLE, Int.reduceAdd, Int.reduceSub, decide_not, dEqB_nn, dEqB_ints0, dEqB_ints, dEqB_int, dEqB_bl, List.map_append, fIsi, D.tyN, Option.bind_some, fSum, fAny, fAll, ints_g, bls_g, D.ints_map, kit_int_int, kit_bool_int, kit_NoneType_int, kit_str_int, kit_list_int, kit_tuple_int, kit_dict_int, kit_int_bool, kit_bool_bool, kit_NoneType_bool, kit_str_bool, kit_list_bool, kit_tuple_bool, kit_dict_bool, kit_int_list, kit_bool_list, kit_NoneType_list, kit_str_list, kit_list_list, kit_tuple_list, kit_dict_list, kit_int_tuple, kit_bool_tuple, kit_NoneType_tuple, kit_str_tuple, kit_list_tuple, kit_tuple_tuple, kit_dict_tuple, kit_int_str, kit_bool_str, kit_NoneType_str, kit_str_str, kit_list_str, kit_tuple_str, kit_dict_str, nc0, nc1, nc2, nc3, nc4, nc5, nc6, nc7, nc8, toDs_c, dEqB_dS0, fMin1, fMax1, toDs_append, this]
  · refine ⟨[], 0, 0, [], none, none, none, none, none, ?_, fun j h => ?_, ?_, Nat.le_refl _, rfl⟩
    · rw [List.map_snd_zip (by simp)]; rfl
    · simp
    · rw [List.map_snd_zip (by simp), hfin]
  · rintro ⟨k, m, w, o⟩ ys e hx ⟨P, h0, h1, out, x6, x7, x8, x9, x10, hP, hk, hb, hol, rfl⟩
    have hk0 : k = P.length := by have := hk 0 (by simp); simpa using this
    subst hk0
    have hin : (m, w, o) ∈ E := by rw [hP]; exact List.mem_append_right _ List.mem_cons_self
    have hw : w = 0 ∨ w = 1 := by
      rcases (hE.mem _).mp hin with h | h
      · rcases mem_evs.mp h with ⟨p, _, e⟩ | ⟨p, _, e⟩ <;> cases e <;> exact .inl rfl
      · rcases mem_evs.mp h with ⟨p, _, e⟩ | ⟨p, _, e⟩ <;> cases e <;> exact .inr rfl
    have pl : P.length + (ys.length + 1) = E.length := by rw [hP]; simp
    obtain ⟨a0, ha0⟩ : ∃ a, a = (if w = 0 then o else h0) := ⟨_, rfl⟩
    obtain ⟨a1, ha1⟩ : ∃ a, a = (if w = 1 then o else h1) := ⟨_, rfl⟩
    have st1 : ∀ y6 y7 y9 y10 : Option T, mSet 4 (mV 8) (mV 9) [some (.p (dS ps)), some (.p (dS qs)), some (.p (dS ws)), some (.p (.lst (E.map dEv))), some (.l [.p (.int h0), .p (.int h1)]), some (tS out), y6, y7, some (.p (.int w)), some (.p (.int o)), y10, none, none] = .nx [some (.p (dS ps)), some (.p (dS qs)), some (.p (dS ws)), some (.p (.lst (E.map dEv))), some (.l [.p (.int a0), .p (.int a1)]), some (tS out), y6, y7, some (.p (.int w)), some (.p (.int o)), y10, none, none] := by
      intro y6 y7 y9 y10
      have i0 : ixN 2 0 = some 0 := rfl
      have i1 : ixN 2 1 = some 1 := rfl
      rcases hw with h | h
      · subst h
        rw [ha0, ha1, if_pos rfl, if_neg (by decide)]
        simp only [mDef, env0, mSeq, mAsg, mAsgF, mAsgT, mB, mV, mC, mRet, mRetV, mIfS, asB, mCall, mCons, mNil, mConsT, mNilT, mL, mTup, mCB, mIf, mNot, mAnd, mOr, mTru, mAndV, mOrV, mNotV, mU, mChI, mO, mSl, mFrz, mBw, mBwB, mNext, frzE, iSeq, iRng1, iRng2, iRng3, iEnumD, iZipD, gN, gT, gC, gNl, mDrop, D.tru, dAdd, dSub, dMul, dMod, dFdiv, dPow, dII, dCmp, dNeg, dIs, dIsNot, D.isN, D.isB, fLen, fMax2, fMin2, T.toD, T.toDs, T.im, T.ims, D.im, D.ims, List.map_cons, List.map_nil, List.length_cons, List.length_nil, List.cons_append, List.nil_append, List.append_nil, List.replicate_zero, List.replicate_succ, List.getElem?_cons_zero, List.getElem?_cons_succ, List.set_cons_zero, List.set_cons_succ, Nat.reduceAdd, Nat.reduceSub, Nat.reduceLT, Nat.reduceLeDiff, Nat.zero_add, Nat.sub_self, Option.map_some, Option.map_none, if_true, if_false, decide_true, decide_false, Bool.and_true, Bool.true_and, Bool.false_and, Bool.and_false, Bool.not_true, Bool.not_false, reduceIte, reduceCtorEq, szl, Nat.zero_le, List.length_map, dEq, dNe, dIx, dSl, toDs_p, toDs_g, toDs_gi, toDs_gp, List.map_map, Int.reduceLT, Int.reduceLE, Int.reduceAdd, Int.reduceSub, decide_not, dEqB_nn, dEqB_ints0, dEqB_ints, dEqB_int, dEqB_bl, List.map_append, fIsi, D.tyN, Option.bind_some, fSum, fAny, fAll, ints_g, bls_g, D.ints_map, kit_int_int, kit_bool_int, kit_NoneType_int, kit_str_int, kit_list_int, kit_tuple_int, kit_dict_int, kit_int_bool, kit_bool_bool, kit_NoneType_bool, kit_str_bool, kit_list_bool, kit_tuple_bool, kit_dict_bool, kit_int_list, kit_bool_list, kit_NoneType_list, kit_str_list, kit_list_list, kit_tuple_list, kit_dict_list, kit_int_tuple, kit_bool_tuple, kit_NoneType_tuple, kit_str_tuple, kit_list_tuple, kit_tuple_tuple, kit_dict_tuple, kit_int_str, kit_bool_str, kit_NoneType_str, kit_str_str, kit_list_str, kit_tuple_str, kit_dict_str, nc0, nc1, nc2, nc3, nc4, nc5, nc6, nc7, nc8, toDs_c, dEqB_dS0, fMin1, fMax1, toDs_append, mSet, i0]
      · subst h
        rw [ha0, ha1, if_neg (by decide), if_pos rfl]
        simp only [mDef, env0, mSeq, mAsg, mAsgF, mAsgT, mB, mV, mC, mRet, mRetV, mIfS, asB, mCall, mCons, mNil, mConsT, mNilT, mL, mTup, mCB, mIf, mNot, mAnd, mOr, mTru, mAndV, mOrV, mNotV, mU, mChI, mO, mSl, mFrz, mBw, mBwB, mNext, frzE, iSeq, iRng1, iRng2, iRng3, iEnumD, iZipD, gN, gT, gC, gNl, mDrop, D.tru, dAdd, dSub, dMul, dMod, dFdiv, dPow, dII, dCmp, dNeg, dIs, dIsNot, D.isN, D.isB, fLen, fMax2, fMin2, T.toD, T.toDs, T.im, T.ims, D.im, D.ims, List.map_cons, List.map_nil, List.length_cons, List.length_nil, List.cons_append, List.nil_append, List.append_nil, List.replicate_zero, List.replicate_succ, List.getElem?_cons_zero, List.getElem?_cons_succ, List.set_cons_zero, List.set_cons_succ, Nat.reduceAdd, Nat.reduceSub, Nat.reduceLT, Nat.reduceLeDiff, Nat.zero_add, Nat.sub_self, Option.map_some, Option.map_none, if_true, if_false, decide_true, decide_false, Bool.and_true, Bool.true_and, Bool.false_and, Bool.and_false, Bool.not_true, Bool.not_false, reduceIte, reduceCtorEq, szl, Nat.zero_le, List.length_map, dEq, dNe, dIx, dSl, toDs_p, toDs_g, toDs_gi, toDs_gp, List.map_map, Int.reduceLT, Int.reduceLE, Int.reduceAdd, Int.reduceSub, decide_not, dEqB_nn, dEqB_ints0, dEqB_ints, dEqB_int, dEqB_bl, List.map_append, fIsi, D.tyN, Option.bind_some, fSum, fAny, fAll, ints_g, bls_g, D.ints_map, kit_int_int, kit_bool_int, kit_NoneType_int, kit_str_int, kit_list_int, kit_tuple_int, kit_dict_int, kit_int_bool, kit_bool_bool, kit_NoneType_bool, kit_str_bool, kit_list_bool, kit_tuple_bool, kit_dict_bool, kit_int_list, kit_bool_list, kit_NoneType_list, kit_str_list, kit_list_list, kit_tuple_list, kit_dict_list, kit_int_tuple, kit_bool_tuple, kit_NoneType_tuple, kit_str_tuple, kit_list_tuple, kit_tuple_tuple, kit_dict_tuple, kit_int_str, kit_bool_str, kit_NoneType_str, kit_str_str, kit_list_str, kit_tuple_str, kit_dict_str, nc0, nc1, nc2, nc3, nc4, nc5, nc6, nc7, nc8, toDs_c, dEqB_dS0, fMin1, fMax1, toDs_append, mSet, i1]
    have hin2 := dIn_dS (a0, a1) ws
    have hP' : E = (P ++ [(m, w, o)]) ++ ys.map (·.2) := by rw [hP]; simp
    have hk' : ∀ j (h : j < ys.length), ys[j].1 = (P ++ [(m, w, o)]).length + j := fun j h => by
      have := hk (j + 1) (by simp only [List.length_cons]; omega)
      simp only [List.getElem_cons_succ] at this
      rw [this]
      simp
      omega
    have ol : out.length < 16777216 := by omega
    cases ys with
    | nil =>
      have elen : (((P.length : Nat) : Int) + 1 = ((E.length : Nat) : Int)) = True := eq_true (by simp only [List.length_nil] at pl; omega)
      refine ⟨[some (.p (dS ps)), some (.p (dS qs)), some (.p (dS ws)), some (.p (.lst (E.map dEv))), some (.l [.p (.int h0), .p (.int h1)]), some (tS out), some (.p (.int (P.length : Nat))), some (.p (.int m)), some (.p (.int w)), some (.p (.int o)), x10, none, none], [some (.p (dS ps)), some (.p (dS qs)), some (.p (dS ws)), some (.p (.lst (E.map dEv))), some (.l [.p (.int a0), .p (.int a1)]), some (tS out), some (.p (.int (P.length : Nat))), some (.p (.int m)), some (.p (.int w)), some (.p (.int o)), some (.p (.bl true)), none, none], by simp only [mDef, env0, mSeq, mAsg, mAsgF, mAsgT, mB, mV, mC, mRet, mRetV, mIfS, asB, mCall, mCons, mNil, mConsT, mNilT, mL, mTup, mCB, mIf, mNot, mAnd, mOr, mTru, mAndV, mOrV, mNotV, mU, mChI, mO, mSl, mFrz, mBw, mBwB, mNext, frzE, iSeq, iRng1, iRng2, iRng3, iEnumD, iZipD, gN, gT, gC, gNl, mDrop, D.tru, dAdd, dSub, dMul, dMod, dFdiv, dPow, dII, dCmp, dNeg, dIs, dIsNot, D.isN, D.isB, fLen, fMax2, fMin2, T.toD, T.toDs, T.im, T.ims, D.im, D.ims, List.map_cons, List.map_nil, List.length_cons, List.length_nil, List.cons_append, List.nil_append, List.append_nil, List.replicate_zero, List.replicate_succ, List.getElem?_cons_zero, List.getElem?_cons_succ, List.set_cons_zero, List.set_cons_succ, Nat.reduceAdd, Nat.reduceSub, Nat.reduceLT, Nat.reduceLeDiff, Nat.zero_add, Nat.sub_self, Option.map_some, Option.map_none, if_true, if_false, decide_true, decide_false, Bool.and_true, Bool.true_and, Bool.false_and, Bool.and_false, Bool.not_true, Bool.not_false, reduceIte, reduceCtorEq, szl, Nat.zero_le, List.length_map, dEq, dNe, dIx, dSl, toDs_p, toDs_g, toDs_gi, toDs_gp, List.map_map, Int.reduceLT, Int.reduceLE, Int.reduceAdd, Int.reduceSub, decide_not, dEqB_nn, dEqB_ints0, dEqB_ints, dEqB_int, dEqB_bl, List.map_append, fIsi, D.tyN, Option.bind_some, fSum, fAny, fAll, ints_g, bls_g, D.ints_map, kit_int_int, kit_bool_int, kit_NoneType_int, kit_str_int, kit_list_int, kit_tuple_int, kit_dict_int, kit_int_bool, kit_bool_bool, kit_NoneType_bool, kit_str_bool, kit_list_bool, kit_tuple_bool, kit_dict_bool, kit_int_list, kit_bool_list, kit_NoneType_list, kit_str_list, kit_list_list, kit_tuple_list, kit_dict_list, kit_int_tuple, kit_bool_tuple, kit_NoneType_tuple, kit_str_tuple, kit_list_tuple, kit_tuple_tuple, kit_dict_tuple, kit_int_str, kit_bool_str, kit_NoneType_str, kit_str_str, kit_list_str, kit_tuple_str, kit_dict_str, nc0, nc1, nc2, nc3, nc4, nc5, nc6, nc7, nc8, toDs_c, dEqB_dS0, fMin1, fMax1, toDs_append, dRow], ?_, P ++ [(m, w, o)], a0, a1, out, _, _, _, _, _, hP', hk', ?_, by simp; omega, rfl⟩
      · refine mSeq_step (st1 _ _ none _) ?_
        refine mSeq_step (e1 := [some (.p (dS ps)), some (.p (dS qs)), some (.p (dS ws)), some (.p (.lst (E.map dEv))), some (.l [.p (.int a0), .p (.int a1)]), some (tS out), some (.p (.int (P.length : Nat))), some (.p (.int m)), some (.p (.int w)), some (.p (.int o)), some (.p (.bl true)), none, none]) (by simp only [mDef, env0, mSeq, mAsg, mAsgF, mAsgT, mB, mV, mC, mRet, mRetV, mIfS, asB, mCall, mCons, mNil, mConsT, mNilT, mL, mTup, mCB, mIf, mNot, mAnd, mOr, mTru, mAndV, mOrV, mNotV, mU, mChI, mO, mSl, mFrz, mBw, mBwB, mNext, frzE, iSeq, iRng1, iRng2, iRng3, iEnumD, iZipD, gN, gT, gC, gNl, mDrop, D.tru, dAdd, dSub, dMul, dMod, dFdiv, dPow, dII, dCmp, dNeg, dIs, dIsNot, D.isN, D.isB, fLen, fMax2, fMin2, T.toD, T.toDs, T.im, T.ims, D.im, D.ims, List.map_cons, List.map_nil, List.length_cons, List.length_nil, List.cons_append, List.nil_append, List.append_nil, List.replicate_zero, List.replicate_succ, List.getElem?_cons_zero, List.getElem?_cons_succ, List.set_cons_zero, List.set_cons_succ, Nat.reduceAdd, Nat.reduceSub, Nat.reduceLT, Nat.reduceLeDiff, Nat.zero_add, Nat.sub_self, Option.map_some, Option.map_none, if_true, if_false, decide_true, decide_false, Bool.and_true, Bool.true_and, Bool.false_and, Bool.and_false, Bool.not_true, Bool.not_false, reduceIte, reduceCtorEq, szl, Nat.zero_le, List.length_map, dEq, dNe, dIx, dSl, toDs_p, toDs_g, toDs_gi, toDs_gp, List.map_map, Int.reduceLT, Int.reduceLE, Int.reduceAdd, Int.reduceSub, decide_not, dEqB_nn, dEqB_ints0, dEqB_ints, dEqB_int, dEqB_bl, List.map_append, fIsi, D.tyN, Option.bind_some, fSum, fAny, fAll, ints_g, bls_g, D.ints_map, kit_int_int, kit_bool_int, kit_NoneType_int, kit_str_int, kit_list_int, kit_tuple_int, kit_dict_int, kit_int_bool, kit_bool_bool, kit_NoneType_bool, kit_str_bool, kit_list_bool, kit_tuple_bool, kit_dict_bool, kit_int_list, kit_bool_list, kit_NoneType_list, kit_str_list, kit_list_list, kit_tuple_list, kit_dict_list, kit_int_tuple, kit_bool_tuple, kit_NoneType_tuple, kit_str_tuple, kit_list_tuple, kit_tuple_tuple, kit_dict_tuple, kit_int_str, kit_bool_str, kit_NoneType_str, kit_str_str, kit_list_str, kit_tuple_str, kit_dict_str, nc0, nc1, nc2, nc3, nc4, nc5, nc6, nc7, nc8, toDs_c, dEqB_dS0, fMin1, fMax1, toDs_append, dEqB_int, elen]) ?_
        simp only [mDef, env0, mSeq, mAsg, mAsgF, mAsgT, mB, mV, mC, mRet, mRetV, mIfS, asB, mCall, mCons, mNil, mConsT, mNilT, mL, mTup, mCB, mIf, mNot, mAnd, mOr, mTru, mAndV, mOrV, mNotV, mU, mChI, mO, mSl, mFrz, mBw, mBwB, mNext, frzE, iSeq, iRng1, iRng2, iRng3, iEnumD, iZipD, gN, gT, gC, gNl, mDrop, D.tru, dAdd, dSub, dMul, dMod, dFdiv, dPow, dII, dCmp, dNeg, dIs, dIsNot, D.isN, D.isB, fLen, fMax2, fMin2, T.toD, T.toDs, T.im, T.ims, D.im, D.ims, List.map_cons, List.map_nil, List.length_cons, List.length_nil, List.cons_append, List.nil_append, List.append_nil, List.replicate_zero, List.replicate_succ, List.getElem?_cons_zero, List.getElem?_cons_succ, List.set_cons_zero, List.set_cons_succ, Nat.reduceAdd, Nat.reduceSub, Nat.reduceLT, Nat.reduceLeDiff, Nat.zero_add, Nat.sub_self, Option.map_some, Option.map_none, if_true, if_false, decide_true, decide_false, Bool.and_true, Bool.true_and, Bool.false_and, Bool.and_false, Bool.not_true, Bool.not_false, reduceIte, reduceCtorEq, szl, Nat.zero_le, List.length_map, dEq, dNe, dIx, dSl, toDs_p, toDs_g, toDs_gi, toDs_gp, List.map_map, Int.reduceLT, Int.reduceLE, Int.reduceAdd, Int.reduceSub, decide_not, dEqB_nn, dEqB_ints0, dEqB_ints, dEqB_int, dEqB_bl, List.map_append, fIsi, D.tyN, Option.bind_some, fSum, fAny, fAll, ints_g, bls_g, D.ints_map, kit_int_int, kit_bool_int, kit_NoneType_int, kit_str_int, kit_list_int, kit_tuple_int, kit_dict_int, kit_int_bool, kit_bool_bool, kit_NoneType_bool, kit_str_bool, kit_list_bool, kit_tuple_bool, kit_dict_bool, kit_int_list, kit_bool_list, kit_NoneType_list, kit_str_list, kit_list_list, kit_tuple_list, kit_dict_list, kit_int_tuple, kit_bool_tuple, kit_NoneType_tuple, kit_str_tuple, kit_list_tuple, kit_tuple_tuple, kit_dict_tuple, kit_int_str, kit_bool_str, kit_NoneType_str, kit_str_str, kit_list_str, kit_tuple_str, kit_dict_str, nc0, nc1, nc2, nc3, nc4, nc5, nc6, nc7, nc8, toDs_c, dEqB_dS0, fMin1, fMax1, toDs_append]
      · rw [← hb]; rfl
    | cons y ys =>
      obtain ⟨k2, m2, w2, o2⟩ := y
      have elen : (((P.length : Nat) : Int) + 1 = ((E.length : Nat) : Int)) = False := eq_false (by simp only [List.length_cons] at pl; omega)
      have hat : atI (E.map dEv) (((P.length : Nat) : Int) + 1) = some (dEv (m2, w2, o2)) := by
        have := atI_nat (xs := E.map dEv) (i := P.length + 1) (by rw [List.length_map]; simp only [List.length_cons] at pl; omega)
        rw [Int.natCast_add] at this
        rw [show ((P.length : Nat) : Int) + 1 = ((P.length : Nat) : Int) + ((1 : Nat) : Int) from rfl, this, List.getElem_map]
        congr 2
        have hP2 : E = P ++ ((m, w, o) :: (m2, w2, o2) :: ys.map (·.2)) := by rw [hP]; simp
        simp [hP2]
      have hd0 : atI [D.int m2, D.int w2, D.int o2] 0 = some (D.int m2) := at0 _ _
      obtain ⟨nx, hnx⟩ : ∃ nx, nx = (if m2 > m ∧ wtL ws a0 a1 = true then addS out m m2 else out) := ⟨_, rfl⟩
      refine ⟨[some (.p (dS ps)), some (.p (dS qs)), some (.p (dS ws)), some (.p (.lst (E.map dEv))), some (.l [.p (.int h0), .p (.int h1)]), some (tS out), some (.p (.int (P.length : Nat))), some (.p (.int m)), some (.p (.int w)), some (.p (.int o)), x10, none, none], [some (.p (dS ps)), some (.p (dS qs)), some (.p (dS ws)), some (.p (.lst (E.map dEv))), some (.l [.p (.int a0), .p (.int a1)]), some (tS nx), some (.p (.int (P.length : Nat))), some (.p (.int m)), some (.p (.int w)), some (.p (.int o)), some (.p (.bl false)), none, none], by simp only [mDef, env0, mSeq, mAsg, mAsgF, mAsgT, mB, mV, mC, mRet, mRetV, mIfS, asB, mCall, mCons, mNil, mConsT, mNilT, mL, mTup, mCB, mIf, mNot, mAnd, mOr, mTru, mAndV, mOrV, mNotV, mU, mChI, mO, mSl, mFrz, mBw, mBwB, mNext, frzE, iSeq, iRng1, iRng2, iRng3, iEnumD, iZipD, gN, gT, gC, gNl, mDrop, D.tru, dAdd, dSub, dMul, dMod, dFdiv, dPow, dII, dCmp, dNeg, dIs, dIsNot, D.isN, D.isB, fLen, fMax2, fMin2, T.toD, T.toDs, T.im, T.ims, D.im, D.ims, List.map_cons, List.map_nil, List.length_cons, List.length_nil, List.cons_append, List.nil_append, List.append_nil, List.replicate_zero, List.replicate_succ, List.getElem?_cons_zero, List.getElem?_cons_succ, List.set_cons_zero, List.set_cons_succ, Nat.reduceAdd, Nat.reduceSub, Nat.reduceLT, Nat.reduceLeDiff, Nat.zero_add, Nat.sub_self, Option.map_some, Option.map_none, if_true, if_false, decide_true, decide_false, Bool.and_true, Bool.true_and, Bool.false_and, Bool.and_false, Bool.not_true, Bool.not_false, reduceIte, reduceCtorEq, szl, Nat.zero_le, List.length_map, dEq, dNe, dIx, dSl, toDs_p, toDs_g, toDs_gi, toDs_gp, List.map_map, Int.reduceLT, Int.reduceLE, Int.reduceAdd, Int.reduceSub, decide_not, dEqB_nn, dEqB_ints0, dEqB_ints, dEqB_int, dEqB_bl, List.map_append, fIsi, D.tyN, Option.bind_some, fSum, fAny, fAll, ints_g, bls_g, D.ints_map, kit_int_int, kit_bool_int, kit_NoneType_int, kit_str_int, kit_list_int, kit_tuple_int, kit_dict_int, kit_int_bool, kit_bool_bool, kit_NoneType_bool, kit_str_bool, kit_list_bool, kit_tuple_bool, kit_dict_bool, kit_int_list, kit_bool_list, kit_NoneType_list, kit_str_list, kit_list_list, kit_tuple_list, kit_dict_list, kit_int_tuple, kit_bool_tuple, kit_NoneType_tuple, kit_str_tuple, kit_list_tuple, kit_tuple_tuple, kit_dict_tuple, kit_int_str, kit_bool_str, kit_NoneType_str, kit_str_str, kit_list_str, kit_tuple_str, kit_dict_str, nc0, nc1, nc2, nc3, nc4, nc5, nc6, nc7, nc8, toDs_c, dEqB_dS0, fMin1, fMax1, toDs_append, dRow], ?_, P ++ [(m, w, o)], a0, a1, nx, _, _, _, _, _, hP', hk', ?_, ?_, rfl⟩
      · refine mSeq_step (st1 _ _ none _) ?_
        refine mSeq_step (e1 := [some (.p (dS ps)), some (.p (dS qs)), some (.p (dS ws)), some (.p (.lst (E.map dEv))), some (.l [.p (.int a0), .p (.int a1)]), some (tS out), some (.p (.int (P.length : Nat))), some (.p (.int m)), some (.p (.int w)), some (.p (.int o)), some (.p (.bl false)), none, none]) (by simp only [mDef, env0, mSeq, mAsg, mAsgF, mAsgT, mB, mV, mC, mRet, mRetV, mIfS, asB, mCall, mCons, mNil, mConsT, mNilT, mL, mTup, mCB, mIf, mNot, mAnd, mOr, mTru, mAndV, mOrV, mNotV, mU, mChI, mO, mSl, mFrz, mBw, mBwB, mNext, frzE, iSeq, iRng1, iRng2, iRng3, iEnumD, iZipD, gN, gT, gC, gNl, mDrop, D.tru, dAdd, dSub, dMul, dMod, dFdiv, dPow, dII, dCmp, dNeg, dIs, dIsNot, D.isN, D.isB, fLen, fMax2, fMin2, T.toD, T.toDs, T.im, T.ims, D.im, D.ims, List.map_cons, List.map_nil, List.length_cons, List.length_nil, List.cons_append, List.nil_append, List.append_nil, List.replicate_zero, List.replicate_succ, List.getElem?_cons_zero, List.getElem?_cons_succ, List.set_cons_zero, List.set_cons_succ, Nat.reduceAdd, Nat.reduceSub, Nat.reduceLT, Nat.reduceLeDiff, Nat.zero_add, Nat.sub_self, Option.map_some, Option.map_none, if_true, if_false, decide_true, decide_false, Bool.and_true, Bool.true_and, Bool.false_and, Bool.and_false, Bool.not_true, Bool.not_false, reduceIte, reduceCtorEq, szl, Nat.zero_le, List.length_map, dEq, dNe, dIx, dSl, toDs_p, toDs_g, toDs_gi, toDs_gp, List.map_map, Int.reduceLT, Int.reduceLE, Int.reduceAdd, Int.reduceSub, decide_not, dEqB_nn, dEqB_ints0, dEqB_ints, dEqB_int, dEqB_bl, List.map_append, fIsi, D.tyN, Option.bind_some, fSum, fAny, fAll, ints_g, bls_g, D.ints_map, kit_int_int, kit_bool_int, kit_NoneType_int, kit_str_int, kit_list_int, kit_tuple_int, kit_dict_int, kit_int_bool, kit_bool_bool, kit_NoneType_bool, kit_str_bool, kit_list_bool, kit_tuple_bool, kit_dict_bool, kit_int_list, kit_bool_list, kit_NoneType_list, kit_str_list, kit_list_list, kit_tuple_list, kit_dict_list, kit_int_tuple, kit_bool_tuple, kit_NoneType_tuple, kit_str_tuple, kit_list_tuple, kit_tuple_tuple, kit_dict_tuple, kit_int_str, kit_bool_str, kit_NoneType_str, kit_str_str, kit_list_str, kit_tuple_str, kit_dict_str, nc0, nc1, nc2, nc3, nc4, nc5, nc6, nc7, nc8, toDs_c, dEqB_dS0, fMin1, fMax1, toDs_append, dEqB_int, elen]) ?_
        have i0 : atI [D.int a0, D.int a1] 0 = some (D.int a0) := at0 _ _
        have i1 : atI [D.int a0, D.int a1] 1 = some (D.int a1) := at1 _ _ _
        rw [hnx]
        generalize hEm : E.map dEv = Em at *
        by_cases c1 : m < m2
        · by_cases c2 : wtL ws a0 a1 = true
          · rw [if_pos ⟨c1, c2⟩]
            have c2' : (ws.any fun z => decide (z = (a0, a1))) = true := c2
            rw [c2'] at hin2
            rcases List.eq_nil_or_concat out with h0 | ⟨pre, q, h0⟩
            · subst h0
              rw [show addS [] m m2 = [(m, m2)] from rfl]
              simp only [mDef, env0, mSeq, mAsg, mAsgF, mAsgT, mB, mV, mC, mRet, mRetV, mIfS, asB, mCall, mCons, mNil, mConsT, mNilT, mL, mTup, mCB, mIf, mNot, mAnd, mOr, mTru, mAndV, mOrV, mNotV, mU, mChI, mO, mSl, mFrz, mBw, mBwB, mNext, frzE, iSeq, iRng1, iRng2, iRng3, iEnumD, iZipD, gN, gT, gC, gNl, mDrop, D.tru, dAdd, dSub, dMul, dMod, dFdiv, dPow, dII, dCmp, dNeg, dIs, dIsNot, D.isN, D.isB, fLen, fMax2, fMin2, T.toD, T.toDs, T.im, T.ims, D.im, D.ims, List.map_cons, List.map_nil, List.length_cons, List.length_nil, List.cons_append, List.nil_append, List.append_nil, List.replicate_zero, List.replicate_succ, List.getElem?_cons_zero, List.getElem?_cons_succ, List.set_cons_zero, List.set_cons_succ, Nat.reduceAdd, Nat.reduceSub, Nat.reduceLT, Nat.reduceLeDiff, Nat.zero_add, Nat.sub_self, Option.map_some, Option.map_none, if_true, if_false, decide_true, decide_false, Bool.and_true, Bool.true_and, Bool.false_and, Bool.and_false, Bool.not_true, Bool.not_false, reduceIte, reduceCtorEq, szl, Nat.zero_le, List.length_map, dEq, dNe, dIx, dSl, toDs_p, toDs_g, toDs_gi, toDs_gp, List.map_map, Int.reduceLT, Int.reduceLE, Int.reduceAdd, Int.reduceSub, decide_not, dEqB_nn, dEqB_ints0, dEqB_ints, dEqB_int, dEqB_bl, List.map_append, fIsi, D.tyN, Option.bind_some, fSum, fAny, fAll, ints_g, bls_g, D.ints_map, kit_int_int, kit_bool_int, kit_NoneType_int, kit_str_int, kit_list_int, kit_tuple_int, kit_dict_int, kit_int_bool, kit_bool_bool, kit_NoneType_bool, kit_str_bool, kit_list_bool, kit_tuple_bool, kit_dict_bool, kit_int_list, kit_bool_list, kit_NoneType_list, kit_str_list, kit_list_list, kit_tuple_list, kit_dict_list, kit_int_tuple, kit_bool_tuple, kit_NoneType_tuple, kit_str_tuple, kit_list_tuple, kit_tuple_tuple, kit_dict_tuple, kit_int_str, kit_bool_str, kit_NoneType_str, kit_str_str, kit_list_str, kit_tuple_str, kit_dict_str, nc0, nc1, nc2, nc3, nc4, nc5, nc6, nc7, nc8, toDs_c, dEqB_dS0, fMin1, fMax1, toDs_append, tS, hat, hd0, c1, i0, i1, hin2, mApp]
            · rw [List.concat_eq_append] at h0
              have hne : ¬ (pre ++ [q] = []) := by simp
              have ea := atI_last (pre.map dP) (dP q)
              rw [← List.map_singleton, ← List.map_append] at ea
              have eb := ixN_last (n := (pre ++ [q]).length) (by simp)
              have ec : ∀ x : T, (List.map (fun p => T.p (dP p)) (pre ++ [q])).set ((pre ++ [q]).length - 1) x = List.map (fun p => T.p (dP p)) pre ++ [x] := by
                intro x
                rw [List.map_append, List.length_append, List.map_singleton, List.length_singleton, Nat.add_sub_cancel]
                rw [List.set_append_right _ _ (by simp)]
                simp
              rw [h0, addS_snoc]
              rw [h0] at ol
              by_cases hq : q.2 = m
              · rw [if_pos hq]
                have e9 : tS (pre ++ [(q.1, m2)]) = .l (pre.map (fun p => T.p (dP p)) ++ [T.p (dP (q.1, m2))]) := by unfold tS; rw [List.map_append]; rfl
                rw [e9]
                generalize hg : pre ++ [q] = pq at *
                simp only [mDef, env0, mSeq, mAsg, mAsgF, mAsgT, mB, mV, mC, mRet, mRetV, mIfS, asB, mCall, mCons, mNil, mConsT, mNilT, mL, mTup, mCB, mIf, mNot, mAnd, mOr, mTru, mAndV, mOrV, mNotV, mU, mChI, mO, mSl, mFrz, mBw, mBwB, mNext, frzE, iSeq, iRng1, iRng2, iRng3, iEnumD, iZipD, gN, gT, gC, gNl, mDrop, D.tru, dAdd, dSub, dMul, dMod, dFdiv, dPow, dII, dCmp, dNeg, dIs, dIsNot, D.isN, D.isB, fLen, fMax2, fMin2, T.toD, T.toDs, T.im, T.ims, D.im, D.ims, List.map_cons, List.map_nil, List.length_cons, List.length_nil, List.cons_append, List.nil_append, List.append_nil, List.replicate_zero, List.replicate_succ, List.getElem?_cons_zero, List.getElem?_cons_succ, List.set_cons_zero, List.set_cons_succ, Nat.reduceAdd, Nat.reduceSub, Nat.reduceLT, Nat.reduceLeDiff, Nat.zero_add, Nat.sub_self, Option.map_some, Option.map_none, if_true, if_false, decide_true, decide_false, Bool.and_true, Bool.true_and, Bool.false_and, Bool.and_false, Bool.not_true, Bool.not_false, reduceIte, reduceCtorEq, szl, Nat.zero_le, List.length_map, dEq, dNe, dIx, dSl, toDs_p, toDs_g, toDs_gi, toDs_gp, List.map_map, Int.reduceLT, Int.reduceLE, Int.reduceAdd, Int.reduceSub, decide_not, dEqB_nn, dEqB_ints0, dEqB_ints, dEqB_int, dEqB_bl, List.map_append, fIsi, D.tyN, Option.bind_some, fSum, fAny, fAll, ints_g, bls_g, D.ints_map, kit_int_int, kit_bool_int, kit_NoneType_int, kit_str_int, kit_list_int, kit_tuple_int, kit_dict_int, kit_int_bool, kit_bool_bool, kit_NoneType_bool, kit_str_bool, kit_list_bool, kit_tuple_bool, kit_dict_bool, kit_int_list, kit_bool_list, kit_NoneType_list, kit_str_list, kit_list_list, kit_tuple_list, kit_dict_list, kit_int_tuple, kit_bool_tuple, kit_NoneType_tuple, kit_str_tuple, kit_list_tuple, kit_tuple_tuple, kit_dict_tuple, kit_int_str, kit_bool_str, kit_NoneType_str, kit_str_str, kit_list_str, kit_tuple_str, kit_dict_str, nc0, nc1, nc2, nc3, nc4, nc5, nc6, nc7, nc8, toDs_c, dEqB_dS0, fMin1, fMax1, toDs_append, tS, mSet, dEqB_dS0, hne, ea, atI2_1, atI2_0, dEqB_int, hq, eb, ec, hat, hd0, c1, i0, i1, hin2]
              · rw [if_neg hq]
                have e9 : tS (pre ++ [q] ++ [(m, m2)]) = .l ((pre ++ [q]).map (fun p => T.p (dP p)) ++ [T.p (dP (m, m2))]) := by unfold tS; rw [List.map_append (l₁ := pre ++ [q])]; rfl
                rw [e9]
                generalize hg : pre ++ [q] = pq at *
                simp only [mDef, env0, mSeq, mAsg, mAsgF, mAsgT, mB, mV, mC, mRet, mRetV, mIfS, asB, mCall, mCons, mNil, mConsT, mNilT, mL, mTup, mCB, mIf, mNot, mAnd, mOr, mTru, mAndV, mOrV, mNotV, mU, mChI, mO, mSl, mFrz, mBw, mBwB, mNext, frzE, iSeq, iRng1, iRng2, iRng3, iEnumD, iZipD, gN, gT, gC, gNl, mDrop, D.tru, dAdd, dSub, dMul, dMod, dFdiv, dPow, dII, dCmp, dNeg, dIs, dIsNot, D.isN, D.isB, fLen, fMax2, fMin2, T.toD, T.toDs, T.im, T.ims, D.im, D.ims, List.map_cons, List.map_nil, List.length_cons, List.length_nil, List.cons_append, List.nil_append, List.append_nil, List.replicate_zero, List.replicate_succ, List.getElem?_cons_zero, List.getElem?_cons_succ, List.set_cons_zero, List.set_cons_succ, Nat.reduceAdd, Nat.reduceSub, Nat.reduceLT, Nat.reduceLeDiff, Nat.zero_add, Nat.sub_self, Option.map_some, Option.map_none, if_true, if_false, decide_true, decide_false, Bool.and_true, Bool.true_and, Bool.false_and, Bool.and_false, Bool.not_true, Bool.not_false, reduceIte, reduceCtorEq, szl, Nat.zero_le, List.length_map, dEq, dNe, dIx, dSl, toDs_p, toDs_g, toDs_gi, toDs_gp, List.map_map, Int.reduceLT, Int.reduceLE, Int.reduceAdd, Int.reduceSub, decide_not, dEqB_nn, dEqB_ints0, dEqB_ints, dEqB_int, dEqB_bl, List.map_append, fIsi, D.tyN, Option.bind_some, fSum, fAny, fAll, ints_g, bls_g, D.ints_map, kit_int_int, kit_bool_int, kit_NoneType_int, kit_str_int, kit_list_int, kit_tuple_int, kit_dict_int, kit_int_bool, kit_bool_bool, kit_NoneType_bool, kit_str_bool, kit_list_bool, kit_tuple_bool, kit_dict_bool, kit_int_list, kit_bool_list, kit_NoneType_list, kit_str_list, kit_list_list, kit_tuple_list, kit_dict_list, kit_int_tuple, kit_bool_tuple, kit_NoneType_tuple, kit_str_tuple, kit_list_tuple, kit_tuple_tuple, kit_dict_tuple, kit_int_str, kit_bool_str, kit_NoneType_str, kit_str_str, kit_list_str, kit_tuple_str, kit_dict_str, nc0, nc1, nc2, nc3, nc4, nc5, nc6, nc7, nc8, toDs_c, dEqB_dS0, fMin1, fMax1, toDs_append, tS, mApp, dEqB_dS0, hne, ea, atI2_1, dEqB_int, hq, ol, hat, hd0, c1, i0, i1, hin2]
          · rw [if_neg (fun h => c2 h.2)]
            have c2' : (ws.any fun z => decide (z = (a0, a1))) = false := by
              cases h : (ws.any fun z => decide (z = (a0, a1))) with
              | false => rfl
              | true => exact absurd h c2
            rw [c2'] at hin2
            simp only [mDef, env0, mSeq, mAsg, mAsgF, mAsgT, mB, mV, mC, mRet, mRetV, mIfS, asB, mCall, mCons, mNil, mConsT, mNilT, mL, mTup, mCB, mIf, mNot, mAnd, mOr, mTru, mAndV, mOrV, mNotV, mU, mChI, mO, mSl, mFrz, mBw, mBwB, mNext, frzE, iSeq, iRng1, iRng2, iRng3, iEnumD, iZipD, gN, gT, gC, gNl, mDrop, D.tru, dAdd, dSub, dMul, dMod, dFdiv, dPow, dII, dCmp, dNeg, dIs, dIsNot, D.isN, D.isB, fLen, fMax2, fMin2, T.toD, T.toDs, T.im, T.ims, D.im, D.ims, List.map_cons, List.map_nil, List.length_cons, List.length_nil, List.cons_append, List.nil_append, List.append_nil, List.replicate_zero, List.replicate_succ, List.getElem?_cons_zero, List.getElem?_cons_succ, List.set_cons_zero, List.set_cons_succ, Nat.reduceAdd, Nat.reduceSub, Nat.reduceLT, Nat.reduceLeDiff, Nat.zero_add, Nat.sub_self, Option.map_some, Option.map_none, if_true, if_false, decide_true, decide_false, Bool.and_true, Bool.true_and, Bool.false_and, Bool.and_false, Bool.not_true, Bool.not_false, reduceIte, reduceCtorEq, szl, Nat.zero_le, List.length_map, dEq, dNe, dIx, dSl, toDs_p, toDs_g, toDs_gi, toDs_gp, List.map_map, Int.reduceLT, Int.reduceLE, Int.reduceAdd, Int.reduceSub, decide_not, dEqB_nn, dEqB_ints0, dEqB_ints, dEqB_int, dEqB_bl, List.map_append, fIsi, D.tyN, Option.bind_some, fSum, fAny, fAll, ints_g, bls_g, D.ints_map, kit_int_int, kit_bool_int, kit_NoneType_int, kit_str_int, kit_list_int, kit_tuple_int, kit_dict_int, kit_int_bool, kit_bool_bool, kit_NoneType_bool, kit_str_bool, kit_list_bool, kit_tuple_bool, kit_dict_bool, kit_int_list, kit_bool_list, kit_NoneType_list, kit_str_list, kit_list_list, kit_tuple_list, kit_dict_list, kit_int_tuple, kit_bool_tuple, kit_NoneType_tuple, kit_str_tuple, kit_list_tuple, kit_tuple_tuple, kit_dict_tuple, kit_int_str, kit_bool_str, kit_NoneType_str, kit_str_str, kit_list_str, kit_tuple_str, kit_dict_str, nc0, nc1, nc2, nc3, nc4, nc5, nc6, nc7, nc8, toDs_c, dEqB_dS0, fMin1, fMax1, toDs_append, tS, hat, hd0, c1, i0, i1, hin2]
        · rw [if_neg (fun h => c1 h.1)]
          simp only [mDef, env0, mSeq, mAsg, mAsgF, mAsgT, mB, mV, mC, mRet, mRetV, mIfS, asB, mCall, mCons, mNil, mConsT, mNilT, mL, mTup, mCB, mIf, mNot, mAnd, mOr, mTru, mAndV, mOrV, mNotV, mU, mChI, mO, mSl, mFrz, mBw, mBwB, mNext, frzE, iSeq, iRng1, iRng2, iRng3, iEnumD, iZipD, gN, gT, gC, gNl, mDrop, D.tru, dAdd, dSub, dMul, dMod, dFdiv, dPow, dII, dCmp, dNeg, dIs, dIsNot, D.isN, D.isB, fLen, fMax2, fMin2, T.toD, T.toDs, T.im, T.ims, D.im, D.ims, List.map_cons, List.map_nil, List.length_cons, List.length_nil, List.cons_append, List.nil_append, List.append_nil, List.replicate_zero, List.replicate_succ, List.getElem?_cons_zero, List.getElem?_cons_succ, List.set_cons_zero, List.set_cons_succ, Nat.reduceAdd, Nat.reduceSub, Nat.reduceLT, Nat.reduceLeDiff, Nat.zero_add, Nat.sub_self, Option.map_some, Option.map_none, if_true, if_false, decide_true, decide_false, Bool.and_true, Bool.true_and, Bool.false_and, Bool.and_false, Bool.not_true, Bool.not_false, reduceIte, reduceCtorEq, szl, Nat.zero_le, List.length_map, dEq, dNe, dIx, dSl, toDs_p, toDs_g, toDs_gi, toDs_gp, List.map_map, Int.reduceLT, Int.reduceLE, Int.reduceAdd, Int.reduceSub, decide_not, dEqB_nn, dEqB_ints0, dEqB_ints, dEqB_int, dEqB_bl, List.map_append, fIsi, D.tyN, Option.bind_some, fSum, fAny, fAll, ints_g, bls_g, D.ints_map, kit_int_int, kit_bool_int, kit_NoneType_int, kit_str_int, kit_list_int, kit_tuple_int, kit_dict_int, kit_int_bool, kit_bool_bool, kit_NoneType_bool, kit_str_bool, kit_list_bool, kit_tuple_bool, kit_dict_bool, kit_int_list, kit_bool_list, kit_NoneType_list, kit_str_list, kit_list_list, kit_tuple_list, kit_dict_list, kit_int_tuple, kit_bool_tuple, kit_NoneType_tuple, kit_str_tuple, kit_list_tuple, kit_tuple_tuple, kit_dict_tuple, kit_int_str, kit_bool_str, kit_NoneType_str, kit_str_str, kit_list_str, kit_tuple_str, kit_dict_str, nc0, nc1, nc2, nc3, nc4, nc5, nc6, nc7, nc8, toDs_c, dEqB_dS0, fMin1, fMax1, toDs_append, tS, hat, hd0, c1]
      · rw [hnx, ha0, ha1, ← hb]
        rfl
      · have al : (addS out m m2).length ≤ out.length + 1 := by
          rcases List.eq_nil_or_concat out with h0 | ⟨ps, q, h0⟩
          · subst h0; simp [addS]
          · rw [List.concat_eq_append] at h0
            subst h0
            rw [addS_snoc]
            split
            · simp
            · simp
        rw [hnx]
        by_cases c : m2 > m ∧ wtL ws a0 a1 = true
        · rw [if_pos c, List.length_append, List.length_singleton]; omega
        · rw [if_neg c, List.length_append, List.length_singleton]; omega
  · rintro e ⟨P, h0, h1, out, x6, x7, x8, x9, x10, _, _, hb, _, rfl⟩
    have : out = fin := hb
    rw [this]
    simp only [mDef, env0, mSeq, mAsg, mAsgF, mAsgT, mB, mV, mC, mRet, mRetV, mIfS, asB, mCall, mCons, mNil, mConsT, mNilT, mL, mTup, mCB, mIf, mNot, mAnd, mOr, mTru, mAndV, mOrV, mNotV, mU, mChI, mO, mSl, mFrz, mBw, mBwB, mNext, frzE, iSeq, iRng1, iRng2, iRng3, iEnumD, iZipD, gN, gT, gC, gNl, mDrop, D.tru, dAdd, dSub, dMul, dMod, dFdiv, dPow, dII, dCmp, dNeg, dIs, dIsNot, D.isN, D.isB, fLen, fMax2, fMin2, T.toD, T.toDs, T.im, T.ims, D.im, D.ims, List.map_cons, List.map_nil, List.length_cons, List.length_nil, List.cons_append, List.nil_append, List.append_nil, List.replicate_zero, List.replicate_succ, List.getElem?_cons_zero, List.getElem?_cons_succ, List.set_cons_zero, List.set_cons_succ, Nat.reduceAdd, Nat.reduceSub, Nat.reduceLT, Nat.reduceLeDiff, Nat.zero_add, Nat.sub_self, Option.map_some, Option.map_none, if_true, if_false, decide_true, decide_false, Bool.and_true, Bool.true_and, Bool.false_and, Bool.and_false, Bool.not_true, Bool.not_false, reduceIte, reduceCtorEq, szl, Nat.zero_le, List.length_map, dEq, dNe, dIx, dSl, toDs_p, toDs_g, toDs_gi, toDs_gp, List.map_map, Int.reduceLT, Int.reduceLE, Int.reduceAdd, Int.reduceSub, decide_not, dEqB_nn, dEqB_ints0, dEqB_ints, dEqB_int, dEqB_bl, List.map_append, fIsi, D.tyN, Option.bind_some, fSum, fAny, fAll, ints_g, bls_g, D.ints_map, kit_int_int, kit_bool_int, kit_NoneType_int, kit_str_int, kit_list_int, kit_tuple_int, kit_dict_int, kit_int_bool, kit_bool_bool, kit_NoneType_bool, kit_str_bool, kit_list_bool, kit_tuple_bool, kit_dict_bool, kit_int_list, kit_bool_list, kit_NoneType_list, kit_str_list, kit_list_list, kit_tuple_list, kit_dict_list, kit_int_tuple, kit_bool_tuple, kit_NoneType_tuple, kit_str_tuple, kit_list_tuple, kit_tuple_tuple, kit_dict_tuple, kit_int_str, kit_bool_str, kit_NoneType_str, kit_str_str, kit_list_str, kit_tuple_str, kit_dict_str, nc0, nc1, nc2, nc3, nc4, nc5, nc6, nc7, nc8, toDs_c, dEqB_dS0, fMin1, fMax1, toDs_append]
end Nd

namespace Nd
open PySem L2
abbrev HAreL (f : List D → RE) : Prop := ∀ ps : List (Int × Int), ps.length ≤ 10000 → f [dS ps, dS ps] = .ok (.p (.bl true))
theorem g_areL : HAreL G__law_are := by
  intro ps hl
  have he := dEqB_dS ps ps
  unfold G__law_are
  apply mDef_rt
  refine mSeq_step (e1 := [some (.p (dS ps)), some (.p (dS ps)), none]) (by simp only [mDef, env0, mSeq, mAsg, mAsgF, mAsgT, mB, mV, mC, mRet, mRetV, mIfS, asB, mCall, mCons, mNil, mConsT, mNilT, mL, mTup, mCB, mIf, mNot, mAnd, mOr, mTru, mAndV, mOrV, mNotV, mU, mChI, mO, mSl, mFrz, mBw, mBwB, mNext, frzE, iSeq, iRng1, iRng2, iRng3, iEnumD, iZipD, gN, gT, gC, gNl, mDrop, D.tru, dAdd, dSub, dMul, dMod, dFdiv, dPow, dII, dCmp, dNeg, dIs, dIsNot, D.isN, D.isB, fLen, fMax2, fMin2, T.toD, T.toDs, T.im, T.ims, D.im, D.ims, List.map_cons, List.map_nil, List.length_cons, List.length_nil, List.cons_append, List.nil_append, List.append_nil, List.replicate_zero, List.replicate_succ, List.getElem?_cons_zero, List.getElem?_cons_succ, List.set_cons_zero, List.set_cons_succ, Nat.reduceAdd, Nat.reduceSub, Nat.reduceLT, Nat.reduceLeDiff, Nat.zero_add, Nat.sub_self, Option.map_some, Option.map_none, if_true, if_false, decide_true, decide_false, Bool.and_true, Bool.true_and, Bool.false_and, Bool.and_false, Bool.not_true, Bool.not_false, reduceIte, reduceCtorEq, szl, Nat.zero_le, List.length_map, dEq, dNe, dIx, dSl, toDs_p, toDs_g, toDs_gi, toDs_gp, List.map_map, Int.reduceLT, Int.reduceLE, Int.reduceAdd, Int.reduceSub, decide_not, dEqB_nn, dEqB_ints0, dEqB_ints, dEqB_int, dEqB_bl, List.map_append, fIsi, D.tyN, Option.bind_some, fSum, fAny, fAll, ints_g, bls_g, D.ints_map, kit_int_int, kit_bool_int, kit_NoneType_int, kit_str_int, kit_list_int, kit_tuple_int, kit_dict_int, kit_int_bool, kit_bool_bool, kit_NoneType_bool, kit_str_bool, kit_list_bool, kit_tuple_bool, kit_dict_bool, kit_int_list, kit_bool_list, kit_NoneType_list, kit_str_list, kit_list_list, kit_tuple_list, kit_dict_list, kit_int_tuple, kit_bool_tuple, kit_NoneType_tuple, kit_str_tuple, kit_list_tuple, kit_tuple_tuple, kit_dict_tuple, kit_int_str, kit_bool_str, kit_NoneType_str, kit_str_str, kit_list_str, kit_tuple_str, kit_dict_str, nc0, nc1, nc2, nc3, nc4, nc5, nc6, nc7, nc8, toDs_c, dEqB_dS0, fMin1, fMax1, toDs_append, he]) ?_
  refine mSeq_for ps dP (fun rest e => ∃ x, e = [some (.p (dS ps)), some (.p (dS ps)), x]) (by simp only [mDef, env0, mSeq, mAsg, mAsgF, mAsgT, mB, mV, mC, mRet, mRetV, mIfS, asB, mCall, mCons, mNil, mConsT, mNilT, mL, mTup, mCB, mIf, mNot, mAnd, mOr, mTru, mAndV, mOrV, mNotV, mU, mChI, mO, mSl, mFrz, mBw, mBwB, mNext, frzE, iSeq, iRng1, iRng2, iRng3, iEnumD, iZipD, gN, gT, gC, gNl, mDrop, D.tru, dAdd, dSub, dMul, dMod, dFdiv, dPow, dII, dCmp, dNeg, dIs, dIsNot, D.isN, D.isB, fLen, fMax2, fMin2, T.toD, T.toDs, T.im, T.ims, D.im, D.ims, List.map_cons, List.map_nil, List.length_cons, List.length_nil, List.cons_append, List.nil_append, List.append_nil, List.replicate_zero, List.replicate_succ, List.getElem?_cons_zero, List.getElem?_cons_succ, List.set_cons_zero, List.set_cons_succ, Nat.reduceAdd, Nat.reduceSub, Nat.reduceLT, Nat.reduceLeDiff, Nat.zero_add, Nat.sub_self, Option.map_some, Option.map_none, if_true, if_false, decide_true, decide_false, Bool.and_true, Bool.true_and, Bool.false_and, Bool.and_false, Bool.not_true, Bool.not_false, reduceIte, reduceCtorEq, szl, Nat.zero_le, List.length_map, dEq, dNe, dIx, dSl, toDs_p, toDs_g, toDs_gi, toDs_gp, List.map_map, Int.reduceLT, Int.reduceLE, Int.reduceAdd, Int.reduceSub, decide_not, dEqB_nn, dEqB_ints0, dEqB_ints, dEqB_int, dEqB_bl, List.map_append, fIsi, D.tyN, Option.bind_some, fSum, fAny, fAll, ints_g, bls_g, D.ints_map, kit_int_int, kit_bool_int, kit_NoneType_int, kit_str_int, kit_list_int, kit_tuple_int, kit_dict_int, kit_int_bool, kit_bool_bool, kit_NoneType_bool, kit_str_bool, kit_list_bool, kit_tuple_bool, kit_dict_bool, kit_int_list, kit_bool_list, kit_NoneType_list, kit_str_list, kit_list_list, kit_tuple_list, kit_dict_list, kit_int_tuple, kit_bool_tuple, kit_NoneType_tuple, kit_str_tuple, kit_list_tuple, kit_tuple_tuple, kit_dict_tuple, kit_int_str, kit_bool_str, kit_NoneType_str, kit_str_str, kit_list_str, kit_tuple_str, kit_dict_str, nc0, nc1, nc2, nc3, nc4, nc5, nc6, nc7, nc8, toDs_c, dEqB_dS0, fMin1, fMax1, toDs_append]) ⟨none, rfl⟩ ?_ ?_
  · rintro ⟨a, b⟩ ys e _ ⟨x, rfl⟩
    have i0 : atI [D.int a, D.int b] 0 = some (D.int a) := at0 _ _
    have i1 : atI [D.int a, D.int b] 1 = some (D.int b) := at1 _ _ _
    refine ⟨[some (.p (dS ps)), some (.p (dS ps)), some (.p (dP (a, b)))], [some (.p (dS ps)), some (.p (dS ps)), some (.p (dP (a, b)))], by simp only [mDef, env0, mSeq, mAsg, mAsgF, mAsgT, mB, mV, mC, mRet, mRetV, mIfS, asB, mCall, mCons, mNil, mConsT, mNilT, mL, mTup, mCB, mIf, mNot, mAnd, mOr, mTru, mAndV, mOrV, mNotV, mU, mChI, mO, mSl, mFrz, mBw, mBwB, mNext, frzE, iSeq, iRng1, iRng2, iRng3, iEnumD, iZipD, gN, gT, gC, gNl, mDrop, D.tru, dAdd, dSub, dMul, dMod, dFdiv, dPow, dII, dCmp, dNeg, dIs, dIsNot, D.isN, D.isB, fLen, fMax2, fMin2, T.toD, T.toDs, T.im, T.ims, D.im, D.ims, List.map_cons, List.map_nil, List.length_cons, List.length_nil, List.cons_append, List.nil_append, List.append_nil, List.replicate_zero, List.replicate_succ, List.getElem?_cons_zero, List.getElem?_cons_succ, List.set_cons_zero, List.set_cons_succ, Nat.reduceAdd, Nat.reduceSub, Nat.reduceLT, Nat.reduceLeDiff, Nat.zero_add, Nat.sub_self, Option.map_some, Option.map_none, if_true, if_false, decide_true, decide_false, Bool.and_true, Bool.true_and, Bool.false_and, Bool.and_false, Bool.not_true, Bool.not_false, reduceIte, reduceCtorEq, szl, Nat.zero_le, List.length_map, dEq, dNe, dIx, dSl, toDs_p, toDs_g, toDs_gi, toDs_gp, List.map_map, Int.reduceLT, Int.reduceLE, Int.reduceAdd, Int.reduceSub, decide_not, dEqB_nn, dEqB_ints0, dEqB_ints, dEqB_int, dEqB_bl, List.map_append, fIsi, D.tyN, Option.bind_some, fSum, fAny, fAll, ints_g, bls_g, D.ints_map, kit_int_int, kit_bool_int, kit_NoneType_int, kit_str_int, kit_list_int, kit_tuple_int, kit_dict_int, kit_int_bool, kit_bool_bool, kit_NoneType_bool, kit_str_bool, kit_list_bool, kit_tuple_bool, kit_dict_bool, kit_int_list, kit_bool_list, kit_NoneType_list, kit_str_list, kit_list_list, kit_tuple_list, kit_dict_list, kit_int_tuple, kit_bool_tuple, kit_NoneType_tuple, kit_str_tuple, kit_list_tuple, kit_tuple_tuple, kit_dict_tuple, kit_int_str, kit_bool_str, kit_NoneType_str, kit_str_str, kit_list_str, kit_tuple_str, kit_dict_str, nc0, nc1, nc2, nc3, nc4, nc5, nc6, nc7, nc8, toDs_c, dEqB_dS0, fMin1, fMax1, toDs_append], ?_, _, rfl⟩
    simp only [mDef, env0, mSeq, mAsg, mAsgF, mAsgT, mB, mV, mC, mRet, mRetV, mIfS, asB, mCall, mCons, mNil, mConsT, mNilT, mL, mTup, mCB, mIf, mNot, mAnd, mOr, mTru, mAndV, mOrV, mNotV, mU, mChI, mO, mSl, mFrz, mBw, mBwB, mNext, frzE, iSeq, iRng1, iRng2, iRng3, iEnumD, iZipD, gN, gT, gC, gNl, mDrop, D.tru, dAdd, dSub, dMul, dMod, dFdiv, dPow, dII, dCmp, dNeg, dIs, dIsNot, D.isN, D.isB, fLen, fMax2, fMin2, T.toD, T.toDs, T.im, T.ims, D.im, D.ims, List.map_cons, List.map_nil, List.length_cons, List.length_nil, List.cons_append, List.nil_append, List.append_nil, List.replicate_zero, List.replicate_succ, List.getElem?_cons_zero, List.getElem?_cons_succ, List.set_cons_zero, List.set_cons_succ, Nat.reduceAdd, Nat.reduceSub, Nat.reduceLT, Nat.reduceLeDiff, Nat.zero_add, Nat.sub_self, Option.map_some, Option.map_none, if_true, if_false, decide_true, decide_false, Bool.and_true, Bool.true_and, Bool.false_and, Bool.and_false, Bool.not_true, Bool.not_false, reduceIte, reduceCtorEq, szl, Nat.zero_le, List.length_map, dEq, dNe, dIx, dSl, toDs_p, toDs_g, toDs_gi, toDs_gp, List.map_map, Int.reduceLT, Int.reduceLE, Int.reduceAdd, Int.reduceSub, decide_not, dEqB_nn, dEqB_ints0, dEqB_ints, dEqB_int, dEqB_bl, List.map_append, fIsi, D.tyN, Option.bind_some, fSum, fAny, fAll, ints_g, bls_g, D.ints_map, kit_int_int, kit_bool_int, kit_NoneType_int, kit_str_int, kit_list_int, kit_tuple_int, kit_dict_int, kit_int_bool, kit_bool_bool, kit_NoneType_bool, kit_str_bool, kit_list_bool, kit_tuple_bool, kit_dict_bool, kit_int_list, kit_bool_list, kit_NoneType_list, kit_str_list, kit_list_list, kit_tuple_list, kit_dict_list, kit_int_tuple, kit_bool_tuple, kit_NoneType_tuple, kit_str_tuple, kit_list_tuple, kit_tuple_tuple, kit_dict_tuple, kit_int_str, kit_bool_str, kit_NoneType_str, kit_str_str, kit_list_str, kit_tuple_str, kit_dict_str, nc0, nc1, nc2, nc3, nc4, nc5, nc6, nc7, nc8, toDs_c, dEqB_dS0, fMin1, fMax1, toDs_append, i0, i1]
  · rintro e ⟨x, rfl⟩
    simp only [mDef, env0, mSeq, mAsg, mAsgF, mAsgT, mB, mV, mC, mRet, mRetV, mIfS, asB, mCall, mCons, mNil, mConsT, mNilT, mL, mTup, mCB, mIf, mNot, mAnd, mOr, mTru, mAndV, mOrV, mNotV, mU, mChI, mO, mSl, mFrz, mBw, mBwB, mNext, frzE, iSeq, iRng1, iRng2, iRng3, iEnumD, iZipD, gN, gT, gC, gNl, mDrop, D.tru, dAdd, dSub, dMul, dMod, dFdiv, dPow, dII, dCmp, dNeg, dIs, dIsNot, D.isN, D.isB, fLen, fMax2, fMin2, T.toD, T.toDs, T.im, T.ims, D.im, D.ims, List.map_cons, List.map_nil, List.length_cons, List.length_nil, List.cons_append, List.nil_append, List.append_nil, List.replicate_zero, List.replicate_succ, List.getElem?_cons_zero, List.getElem?_cons_succ, List.set_cons_zero, List.set_cons_succ, Nat.reduceAdd, Nat.reduceSub, Nat.reduceLT, Nat.reduceLeDiff, Nat.zero_add, Nat.sub_self, Option.map_some, Option.map_none, if_true, if_false, decide_true, decide_false, Bool.and_true, Bool.true_and, Bool.false_and, Bool.and_false, Bool.not_true, Bool.not_false, reduceIte, reduceCtorEq, szl, Nat.zero_le, List.length_map, dEq, dNe, dIx, dSl, toDs_p, toDs_g, toDs_gi, toDs_gp, List.map_map, Int.reduceLT, Int.reduceLE, Int.reduceAdd, Int.reduceSub, decide_not, dEqB_nn, dEqB_ints0, dEqB_ints, dEqB_int, dEqB_bl, List.map_append, fIsi, D.tyN, Option.bind_some, fSum, fAny, fAll, ints_g, bls_g, D.ints_map, kit_int_int, kit_bool_int, kit_NoneType_int, kit_str_int, kit_list_int, kit_tuple_int, kit_dict_int, kit_int_bool, kit_bool_bool, kit_NoneType_bool, kit_str_bool, kit_list_bool, kit_tuple_bool, kit_dict_bool, kit_int_list, kit_bool_list, kit_NoneType_list, kit_str_list, kit_list_list, kit_tuple_list, kit_dict_list, kit_int_tuple, kit_bool_tuple, kit_NoneType_tuple, kit_str_tuple, kit_list_tuple, kit_tuple_tuple, kit_dict_tuple, kit_int_str, kit_bool_str, kit_NoneType_str, kit_str_str, kit_list_str, kit_tuple_str, kit_dict_str, nc0, nc1, nc2, nc3, nc4, nc5, nc6, nc7, nc8, toDs_c, dEqB_dS0, fMin1, fMax1, toDs_append]
theorem bW_or {ps qs : List (Int × Int)} (t : Int) : bW (wtL [(1, 0), (0, 1), (1, 1)]) ps qs t ↔ has ps t ∨ has qs t := by
  by_cases a : has ps t
  · by_cases b : has qs t
    · rw [bW_of (i := 1) (j := 1) (.inl ⟨rfl, a⟩) (.inl ⟨rfl, b⟩)]; simp [a, wtL]
    · rw [bW_of (i := 1) (j := 0) (.inl ⟨rfl, a⟩) (.inr ⟨rfl, b⟩)]; simp [a, wtL]
  · by_cases b : has qs t
    · rw [bW_of (i := 0) (j := 1) (.inr ⟨rfl, a⟩) (.inl ⟨rfl, b⟩)]; simp [b, wtL]
    · rw [bW_of (i := 0) (j := 0) (.inr ⟨rfl, a⟩) (.inr ⟨rfl, b⟩)]; simp [a, b, wtL]
theorem bW_and {ps qs : List (Int × Int)} (t : Int) : bW (wtL [(1, 1)]) ps qs t ↔ has ps t ∧ has qs t := by
  by_cases a : has ps t
  · by_cases b : has qs t
    · rw [bW_of (i := 1) (j := 1) (.inl ⟨rfl, a⟩) (.inl ⟨rfl, b⟩)]; simp [a, b, wtL]
    · rw [bW_of (i := 1) (j := 0) (.inl ⟨rfl, a⟩) (.inr ⟨rfl, b⟩)]; simp [b, wtL]
  · by_cases b : has qs t
    · rw [bW_of (i := 0) (j := 1) (.inr ⟨rfl, a⟩) (.inl ⟨rfl, b⟩)]; simp [a, wtL]
    · rw [bW_of (i := 0) (j := 0) (.inr ⟨rfl, a⟩) (.inr ⟨rfl, b⟩)]; simp [a, wtL]
theorem bW_wo {ps qs : List (Int × Int)} (t : Int) : bW (wtL [(1, 0)]) ps qs t ↔ has ps t ∧ ¬ has qs t := by
  by_cases a : has ps t
  · by_cases b : has qs t
    · rw [bW_of (i := 1) (j := 1) (.inl ⟨rfl, a⟩) (.inl ⟨rfl, b⟩)]; simp [b, wtL]
    · rw [bW_of (i := 1) (j := 0) (.inl ⟨rfl, a⟩) (.inr ⟨rfl, b⟩)]; simp [a, b, wtL]
  · by_cases b : has qs t
    · rw [bW_of (i := 0) (j := 1) (.inr ⟨rfl, a⟩) (.inl ⟨rfl, b⟩)]; simp [a, wtL]
    · rw [bW_of (i := 0) (j := 0) (.inr ⟨rfl, a⟩) (.inr ⟨rfl, b⟩)]; simp [a, wtL]
theorem frz_tS (ps : List (Int × Int)) : (tS ps).toD = dS ps := by simp only [T.toD, toDs_gp]
abbrev HRight (f : List D → RE) : Prop := ∀ ps qs, Good ps → Good qs → f [dS ps, dS qs] = .ok (.p (.bl true))
theorem g_right {fw fm fj fb fa : List D → RE} (ew : HWithout fw) (em : HMet fm) (ej : HJoined fj) (eb : HBy fb) (ea : HAreL fa) : HRight (G__law_right fw fm fj fb fa) := by
  intro ps qs g1 g2
  obtain ⟨J, cJ, lJ, hJ, fJ⟩ := ej ps qs g1 g2
  obtain ⟨M, cM, lM, hM, fM⟩ := em ps qs g1 g2
  obtain ⟨W, cW, lW, hW, fW⟩ := ew ps qs g1 g2
  obtain ⟨J2, cJ2, _, hJ2, fJ2⟩ := eb ps qs [(1, 0), (0, 1), (1, 1)] g1 g2 (by decide)
  obtain ⟨M2, cM2, _, hM2, fM2⟩ := eb ps qs [(1, 1)] g1 g2 (by decide)
  obtain ⟨W2, cW2, _, hW2, fW2⟩ := eb ps qs [(1, 0)] g1 g2 (by decide)
  have eJ : J2 = J := can_uniq cJ2 cJ fun m => by rw [hJ2 m, hJ m, bW_or]
  have eM : M2 = M := can_uniq cM2 cM fun m => by rw [hM2 m, hM m, bW_and]
  have eW : W2 = W := can_uniq cW2 cW fun m => by rw [hW2 m, hW m, bW_wo]
  subst eJ eM eW
  have aJ := ea J2 (by omega)
  have aM := ea M2 (by omega)
  have aW := ea W2 (by omega)
  replace fJ2 : fb [dS ps, dS qs, .lst [.tup [.int 1, .int 0], .tup [.int 0, .int 1], .tup [.int 1, .int 1]]] = .ok (tS J2) := fJ2
  replace fM2 : fb [dS ps, dS qs, .lst [.tup [.int 1, .int 1]]] = .ok (tS M2) := fM2
  replace fW2 : fb [dS ps, dS qs, .lst [.tup [.int 1, .int 0]]] = .ok (tS W2) := fW2
  have heq : dEqB (.lst [dS ps, dS qs]) (.lst [dS ps, dS qs]) = some true := by
    have := dEq_dv (α := List (List (Int × Int))) (by decide) [ps, qs] [ps, qs]
    rw [decide_eq_true rfl] at this
    exact this
  have i0 : atI [dS ps, dS qs] 0 = some (dS ps) := at0 _ _
  have i1 : atI [dS ps, dS qs] 1 = some (dS qs) := at1 _ _ _
  obtain ⟨A, hA⟩ : ∃ A, A = dS ps := ⟨_, rfl⟩
  obtain ⟨B, hB⟩ : ∃ B, B = dS qs := ⟨_, rfl⟩
  have pA : A = .lst (ps.map dP) := hA
  have pB : B = .lst (qs.map dP) := hB
  rw [← hA, ← hB] at fJ fM fW fJ2 fM2 fW2 heq i0 i1
  rw [← hA, ← hB]
  have tJ := frz_tS J2
  have tM := frz_tS M2
  have tW := frz_tS W2
  unfold G__law_right
  apply mDef_rt
  refine mSeq_step (e1 := [some (.p A), some (.p B), some (.p (.lst [A, B])), none, none, none, none]) ?_ ?_
  · have hl1 : fList1 [A] = some (.l ((ps.map dP).map T.p)) := by rw [pA]; rfl
    have hl2 : fList1 [B] = some (.l ((qs.map dP).map T.p)) := by rw [pB]; rfl
    have k1 : mCB fList1 (mCons (mV 0) mNil) (env0 7 [A, B]) = .ok (.l ((ps.map dP).map T.p)) := mCB_ok (ds := [A]) rfl hl1
    have k2 : mCB fList1 (mCons (mV 1) mNil) (env0 7 [A, B]) = .ok (.l ((qs.map dP).map T.p)) := mCB_ok (ds := [B]) rfl hl2
    have k3 : mL (mConsT (mCB fList1 (mCons (mV 0) mNil)) (mConsT (mCB fList1 (mCons (mV 1) mNil)) mNilT)) (env0 7 [A, B]) = .ok (.l [.l ((ps.map dP).map T.p), .l ((qs.map dP).map T.p)]) := by
      unfold mL mConsT
      simp only [k1, k2, mNilT]
      rw [if_pos (by rw [szl]; simp)]
    have k4 := mAsgF_ok (i := 2) k3 (by simp [env0])
    simp only [T.toD, T.toDs, toDs_p] at k4
    rw [← pA, ← pB] at k4
    exact k4
  have nap : ∀ (S : List (Int × Int)), S.length ≤ 200 → (S.map fun p => T.p (dP p)).length < sizeLine := fun S h => by rw [szl, List.length_map]; omega
  refine mSeq_for [0, 1] D.int (fun rest e => ∃ x3 x4 x5 x6, e = [some (.p A), some (.p B), some (.p (.lst [A, B])), x3, x4, x5, x6]) ?_ ⟨none, none, none, none, rfl⟩ ?_ ?_
  · simp only [mDef, env0, mSeq, mAsg, mAsgF, mAsgT, mB, mV, mC, mRet, mRetV, mIfS, asB, mCall, mCons, mNil, mConsT, mNilT, mL, mTup, mCB, mIf, mNot, mAnd, mOr, mTru, mAndV, mOrV, mNotV, mU, mChI, mO, mSl, mFrz, mBw, mBwB, mNext, frzE, iSeq, iRng1, iRng2, iRng3, iEnumD, iZipD, gN, gT, gC, gNl, mDrop, D.tru, dAdd, dSub, dMul, dMod, dFdiv, dPow, dII, dCmp, dNeg, dIs, dIsNot, D.isN, D.isB, fLen, fMax2, fMin2, T.toD, T.toDs, T.im, T.ims, D.im, D.ims, List.map_cons, List.map_nil, List.length_cons, List.length_nil, List.cons_append, List.nil_append, List.append_nil, List.replicate_zero, List.replicate_succ, List.getElem?_cons_zero, List.getElem?_cons_succ, List.set_cons_zero, List.set_cons_succ, Nat.reduceAdd, Nat.reduceSub, Nat.reduceLT, Nat.reduceLeDiff, Nat.zero_add, Nat.sub_self, Option.map_some, Option.map_none, if_true, if_false, decide_true, decide_false, Bool.and_true, Bool.true_and, Bool.false_and, Bool.and_false, Bool.not_true, Bool.not_false, reduceIte, reduceCtorEq, szl, Nat.zero_le, List.length_map, dEq, dNe, dIx, dSl, toDs_p, toDs_g, toDs_gi, toDs_gp, List.map_map, Int.reduceLT, Int.reduceLE, Int.reduceAdd, Int.reduceSub, decide_not, dEqB_nn, dEqB_ints0, dEqB_ints, dEqB_int, dEqB_bl, List.map_append, fIsi, D.tyN, Option.bind_some, fSum, fAny, fAll, ints_g, bls_g, D.ints_map, kit_int_int, kit_bool_int, kit_NoneType_int, kit_str_int, kit_list_int, kit_tuple_int, kit_dict_int, kit_int_bool, kit_bool_bool, kit_NoneType_bool, kit_str_bool, kit_list_bool, kit_tuple_bool, kit_dict_bool, kit_int_list, kit_bool_list, kit_NoneType_list, kit_str_list, kit_list_list, kit_tuple_list, kit_dict_list, kit_int_tuple, kit_bool_tuple, kit_NoneType_tuple, kit_str_tuple, kit_list_tuple, kit_tuple_tuple, kit_dict_tuple, kit_int_str, kit_bool_str, kit_NoneType_str, kit_str_str, kit_list_str, kit_tuple_str, kit_dict_str, nc0, nc1, nc2, nc3, nc4, nc5, nc6, nc7, nc8, toDs_c, dEqB_dS0, fMin1, fMax1, toDs_append]
    rw [if_pos (by decide)]
    rfl
  · rintro k ys e _ ⟨x3, x4, x5, x6, rfl⟩
    have done : ∀ (S : List (Int × Int)), T := fun S => .l ((S.map fun p => T.p (dP p)) ++ [.p (dP (0, 0))])
    refine ⟨[some (.p A), some (.p B), some (.p (.lst [A, B])), some (.p (.int k)), x4, x5, x6], [some (.p A), some (.p B), some (.p (.lst [A, B])), some (.p (.int k)), some (.l [.l ((J2.map fun p => T.p (dP p)) ++ [.p (dP (0, 0))]), .l ((M2.map fun p => T.p (dP p)) ++ [.p (dP (0, 0))]), .l ((W2.map fun p => T.p (dP p)) ++ [.p (dP (0, 0))])]), some (.l [tS J2, tS M2, tS W2]), some (.p (.int 2))], by simp only [mDef, env0, mSeq, mAsg, mAsgF, mAsgT, mB, mV, mC, mRet, mRetV, mIfS, asB, mCall, mCons, mNil, mConsT, mNilT, mL, mTup, mCB, mIf, mNot, mAnd, mOr, mTru, mAndV, mOrV, mNotV, mU, mChI, mO, mSl, mFrz, mBw, mBwB, mNext, frzE, iSeq, iRng1, iRng2, iRng3, iEnumD, iZipD, gN, gT, gC, gNl, mDrop, D.tru, dAdd, dSub, dMul, dMod, dFdiv, dPow, dII, dCmp, dNeg, dIs, dIsNot, D.isN, D.isB, fLen, fMax2, fMin2, T.toD, T.toDs, T.im, T.ims, D.im, D.ims, List.map_cons, List.map_nil, List.length_cons, List.length_nil, List.cons_append, List.nil_append, List.append_nil, List.replicate_zero, List.replicate_succ, List.getElem?_cons_zero, List.getElem?_cons_succ, List.set_cons_zero, List.set_cons_succ, Nat.reduceAdd, Nat.reduceSub, Nat.reduceLT, Nat.reduceLeDiff, Nat.zero_add, Nat.sub_self, Option.map_some, Option.map_none, if_true, if_false, decide_true, decide_false, Bool.and_true, Bool.true_and, Bool.false_and, Bool.and_false, Bool.not_true, Bool.not_false, reduceIte, reduceCtorEq, szl, Nat.zero_le, List.length_map, dEq, dNe, dIx, dSl, toDs_p, toDs_g, toDs_gi, toDs_gp, List.map_map, Int.reduceLT, Int.reduceLE, Int.reduceAdd, Int.reduceSub, decide_not, dEqB_nn, dEqB_ints0, dEqB_ints, dEqB_int, dEqB_bl, List.map_append, fIsi, D.tyN, Option.bind_some, fSum, fAny, fAll, ints_g, bls_g, D.ints_map, kit_int_int, kit_bool_int, kit_NoneType_int, kit_str_int, kit_list_int, kit_tuple_int, kit_dict_int, kit_int_bool, kit_bool_bool, kit_NoneType_bool, kit_str_bool, kit_list_bool, kit_tuple_bool, kit_dict_bool, kit_int_list, kit_bool_list, kit_NoneType_list, kit_str_list, kit_list_list, kit_tuple_list, kit_dict_list, kit_int_tuple, kit_bool_tuple, kit_NoneType_tuple, kit_str_tuple, kit_list_tuple, kit_tuple_tuple, kit_dict_tuple, kit_int_str, kit_bool_str, kit_NoneType_str, kit_str_str, kit_list_str, kit_tuple_str, kit_dict_str, nc0, nc1, nc2, nc3, nc4, nc5, nc6, nc7, nc8, toDs_c, dEqB_dS0, fMin1, fMax1, toDs_append], ?_, _, _, _, _, rfl⟩
    refine mSeq_step (e1 := [some (.p A), some (.p B), some (.p (.lst [A, B])), some (.p (.int k)), some (.l [tS J2, tS M2, tS W2]), x5, x6]) ?_ ?_
    · generalize tS J2 = sJ at *
      generalize tS M2 = sM at *
      generalize tS W2 = sW at *
      simp only [mDef, env0, mSeq, mAsg, mAsgF, mAsgT, mB, mV, mC, mRet, mRetV, mIfS, asB, mCall, mCons, mNil, mConsT, mNilT, mL, mTup, mCB, mIf, mNot, mAnd, mOr, mTru, mAndV, mOrV, mNotV, mU, mChI, mO, mSl, mFrz, mBw, mBwB, mNext, frzE, iSeq, iRng1, iRng2, iRng3, iEnumD, iZipD, gN, gT, gC, gNl, mDrop, D.tru, dAdd, dSub, dMul, dMod, dFdiv, dPow, dII, dCmp, dNeg, dIs, dIsNot, D.isN, D.isB, fLen, fMax2, fMin2, T.toD, T.toDs, T.im, T.ims, D.im, D.ims, List.map_cons, List.map_nil, List.length_cons, List.length_nil, List.cons_append, List.nil_append, List.append_nil, List.replicate_zero, List.replicate_succ, List.getElem?_cons_zero, List.getElem?_cons_succ, List.set_cons_zero, List.set_cons_succ, Nat.reduceAdd, Nat.reduceSub, Nat.reduceLT, Nat.reduceLeDiff, Nat.zero_add, Nat.sub_self, Option.map_some, Option.map_none, if_true, if_false, decide_true, decide_false, Bool.and_true, Bool.true_and, Bool.false_and, Bool.and_false, Bool.not_true, Bool.not_false, reduceIte, reduceCtorEq, szl, Nat.zero_le, List.length_map, dEq, dNe, dIx, dSl, toDs_p, toDs_g, toDs_gi, toDs_gp, List.map_map, Int.reduceLT, Int.reduceLE, Int.reduceAdd, Int.reduceSub, decide_not, dEqB_nn, dEqB_ints0, dEqB_ints, dEqB_int, dEqB_bl, List.map_append, fIsi, D.tyN, Option.bind_some, fSum, fAny, fAll, ints_g, bls_g, D.ints_map, kit_int_int, kit_bool_int, kit_NoneType_int, kit_str_int, kit_list_int, kit_tuple_int, kit_dict_int, kit_int_bool, kit_bool_bool, kit_NoneType_bool, kit_str_bool, kit_list_bool, kit_tuple_bool, kit_dict_bool, kit_int_list, kit_bool_list, kit_NoneType_list, kit_str_list, kit_list_list, kit_tuple_list, kit_dict_list, kit_int_tuple, kit_bool_tuple, kit_NoneType_tuple, kit_str_tuple, kit_list_tuple, kit_tuple_tuple, kit_dict_tuple, kit_int_str, kit_bool_str, kit_NoneType_str, kit_str_str, kit_list_str, kit_tuple_str, kit_dict_str, nc0, nc1, nc2, nc3, nc4, nc5, nc6, nc7, nc8, toDs_c, dEqB_dS0, fMin1, fMax1, toDs_append, i0, i1, fJ, fM, fW]
    refine mSeq_step (e1 := [some (.p A), some (.p B), some (.p (.lst [A, B])), some (.p (.int k)), some (.l [tS J2, tS M2, tS W2]), some (.l [tS J2, tS M2]), x6]) ?_ ?_
    · generalize tS J2 = sJ at *
      generalize tS M2 = sM at *
      generalize tS W2 = sW at *
      simp only [mDef, env0, mSeq, mAsg, mAsgF, mAsgT, mB, mV, mC, mRet, mRetV, mIfS, asB, mCall, mCons, mNil, mConsT, mNilT, mL, mTup, mCB, mIf, mNot, mAnd, mOr, mTru, mAndV, mOrV, mNotV, mU, mChI, mO, mSl, mFrz, mBw, mBwB, mNext, frzE, iSeq, iRng1, iRng2, iRng3, iEnumD, iZipD, gN, gT, gC, gNl, mDrop, D.tru, dAdd, dSub, dMul, dMod, dFdiv, dPow, dII, dCmp, dNeg, dIs, dIsNot, D.isN, D.isB, fLen, fMax2, fMin2, T.toD, T.toDs, T.im, T.ims, D.im, D.ims, List.map_cons, List.map_nil, List.length_cons, List.length_nil, List.cons_append, List.nil_append, List.append_nil, List.replicate_zero, List.replicate_succ, List.getElem?_cons_zero, List.getElem?_cons_succ, List.set_cons_zero, List.set_cons_succ, Nat.reduceAdd, Nat.reduceSub, Nat.reduceLT, Nat.reduceLeDiff, Nat.zero_add, Nat.sub_self, Option.map_some, Option.map_none, if_true, if_false, decide_true, decide_false, Bool.and_true, Bool.true_and, Bool.false_and, Bool.and_false, Bool.not_true, Bool.not_false, reduceIte, reduceCtorEq, szl, Nat.zero_le, List.length_map, dEq, dNe, dIx, dSl, toDs_p, toDs_g, toDs_gi, toDs_gp, List.map_map, Int.reduceLT, Int.reduceLE, Int.reduceAdd, Int.reduceSub, decide_not, dEqB_nn, dEqB_ints0, dEqB_ints, dEqB_int, dEqB_bl, List.map_append, fIsi, D.tyN, Option.bind_some, fSum, fAny, fAll, ints_g, bls_g, D.ints_map, kit_int_int, kit_bool_int, kit_NoneType_int, kit_str_int, kit_list_int, kit_tuple_int, kit_dict_int, kit_int_bool, kit_bool_bool, kit_NoneType_bool, kit_str_bool, kit_list_bool, kit_tuple_bool, kit_dict_bool, kit_int_list, kit_bool_list, kit_NoneType_list, kit_str_list, kit_list_list, kit_tuple_list, kit_dict_list, kit_int_tuple, kit_bool_tuple, kit_NoneType_tuple, kit_str_tuple, kit_list_tuple, kit_tuple_tuple, kit_dict_tuple, kit_int_str, kit_bool_str, kit_NoneType_str, kit_str_str, kit_list_str, kit_tuple_str, kit_dict_str, nc0, nc1, nc2, nc3, nc4, nc5, nc6, nc7, nc8, toDs_c, dEqB_dS0, fMin1, fMax1, toDs_append, fJ2, fM2]
    refine mSeq_step (e1 := [some (.p A), some (.p B), some (.p (.lst [A, B])), some (.p (.int k)), some (.l [tS J2, tS M2, tS W2]), some (.l [tS J2, tS M2, tS W2]), x6]) ?_ ?_
    · generalize tS J2 = sJ at *
      generalize tS M2 = sM at *
      generalize tS W2 = sW at *
      simp only [mDef, env0, mSeq, mAsg, mAsgF, mAsgT, mB, mV, mC, mRet, mRetV, mIfS, asB, mCall, mCons, mNil, mConsT, mNilT, mL, mTup, mCB, mIf, mNot, mAnd, mOr, mTru, mAndV, mOrV, mNotV, mU, mChI, mO, mSl, mFrz, mBw, mBwB, mNext, frzE, iSeq, iRng1, iRng2, iRng3, iEnumD, iZipD, gN, gT, gC, gNl, mDrop, D.tru, dAdd, dSub, dMul, dMod, dFdiv, dPow, dII, dCmp, dNeg, dIs, dIsNot, D.isN, D.isB, fLen, fMax2, fMin2, T.toD, T.toDs, T.im, T.ims, D.im, D.ims, List.map_cons, List.map_nil, List.length_cons, List.length_nil, List.cons_append, List.nil_append, List.append_nil, List.replicate_zero, List.replicate_succ, List.getElem?_cons_zero, List.getElem?_cons_succ, List.set_cons_zero, List.set_cons_succ, Nat.reduceAdd, Nat.reduceSub, Nat.reduceLT, Nat.reduceLeDiff, Nat.zero_add, Nat.sub_self, Option.map_some, Option.map_none, if_true, if_false, decide_true, decide_false, Bool.and_true, Bool.true_and, Bool.false_and, Bool.and_false, Bool.not_true, Bool.not_false, reduceIte, reduceCtorEq, szl, Nat.zero_le, List.length_map, dEq, dNe, dIx, dSl, toDs_p, toDs_g, toDs_gi, toDs_gp, List.map_map, Int.reduceLT, Int.reduceLE, Int.reduceAdd, Int.reduceSub, decide_not, dEqB_nn, dEqB_ints0, dEqB_ints, dEqB_int, dEqB_bl, List.map_append, fIsi, D.tyN, Option.bind_some, fSum, fAny, fAll, ints_g, bls_g, D.ints_map, kit_int_int, kit_bool_int, kit_NoneType_int, kit_str_int, kit_list_int, kit_tuple_int, kit_dict_int, kit_int_bool, kit_bool_bool, kit_NoneType_bool, kit_str_bool, kit_list_bool, kit_tuple_bool, kit_dict_bool, kit_int_list, kit_bool_list, kit_NoneType_list, kit_str_list, kit_list_list, kit_tuple_list, kit_dict_list, kit_int_tuple, kit_bool_tuple, kit_NoneType_tuple, kit_str_tuple, kit_list_tuple, kit_tuple_tuple, kit_dict_tuple, kit_int_str, kit_bool_str, kit_NoneType_str, kit_str_str, kit_list_str, kit_tuple_str, kit_dict_str, nc0, nc1, nc2, nc3, nc4, nc5, nc6, nc7, nc8, toDs_c, dEqB_dS0, fMin1, fMax1, toDs_append, fW2, mApp, tW, Nat.reduceLT]
    have step : ∀ (s0 s1 s2 : T) (j : Nat) (S : List (Int × Int)) (y6 : Option T), S.length ≤ 200 → fa [dS S, dS S] = .ok (.p (.bl true)) → [s0, s1, s2][j]? = some (tS S) → [dS J2, dS M2, dS W2][j]? = some (dS S) → j < 3 →
        (mSeq (mIfS (mBwB (mOr (mNot (mTru (mCall 2 fa (mCons (mB dIx (mV 4) (mV 6)) (mCons (mB dIx (mV 5) (mV 6)) mNil))))) (asB (mB dNe (mV 2) (mL (mConsT (mV 0) (mConsT (mV 1) mNilT)))))))
  (mRet (mC (.bl false)))
  mNext)
  (mApp1 4 (mV 6) (mTup (mCons (mC (.int 0)) (mCons (mC (.int 0)) mNil))))) [some (.p A), some (.p B), some (.p (.lst [A, B])), some (.p (.int k)), some (.l [s0, s1, s2]), some (.l [tS J2, tS M2, tS W2]), some (.p (.int (j : Nat)))] = .nx [some (.p A), some (.p B), some (.p (.lst [A, B])), some (.p (.int k)), some (.l ([s0, s1, s2].set j (.l ((S.map fun p => T.p (dP p)) ++ [.p (dP (0, 0))])))), some (.l [tS J2, tS M2, tS W2]), some (.p (.int (j : Nat)))] := by
      intro s0 s1 s2 j S y6 hl hfa hj1 hj2 hj
      have nl := nap S hl
      have hx1 : atI [s0.toD, s1.toD, s2.toD] (j : Int) = some (dS S) := by
        have q : ([s0, s1, s2].map T.toD)[j]? = some (dS S) := by rw [List.getElem?_map, hj1]; simp only [Option.map_some, frz_tS]
        have := atI_nat (xs := [s0, s1, s2].map T.toD) (i := j) (by simp; exact hj)
        rw [List.getElem?_eq_getElem (by simp; exact hj)] at q
        rw [Option.some.inj q] at this
        exact this
      have hx2 : atI [dS J2, dS M2, dS W2] (j : Int) = some (dS S) := by
        have := atI_nat (xs := [dS J2, dS M2, dS W2]) (i := j) (by simp; exact hj)
        rw [List.getElem?_eq_getElem (by simp; exact hj)] at hj2
        rw [Option.some.inj hj2] at this
        exact this
      have hix : ixN 3 (j : Int) = some j := by
        unfold ixN
        rw [if_pos (by omega), if_pos (by omega), Int.toNat_natCast]
      refine mSeq_step (e1 := [some (.p A), some (.p B), some (.p (.lst [A, B])), some (.p (.int k)), some (.l [s0, s1, s2]), some (.l [tS J2, tS M2, tS W2]), some (.p (.int (j : Nat)))]) ?_ ?_
      · generalize dS J2 = dJ at *
        generalize dS M2 = dM2 at *
        generalize dS W2 = dW2 at *
        generalize dS S = dSS at *
        generalize tS J2 = sJ at *
        generalize tS M2 = sM at *
        generalize tS W2 = sW at *
        simp only [mDef, env0, mSeq, mAsg, mAsgF, mAsgT, mB, mV, mC, mRet, mRetV, mIfS, asB, mCall, mCons, mNil, mConsT, mNilT, mL, mTup, mCB, mIf, mNot, mAnd, mOr, mTru, mAndV, mOrV, mNotV, mU, mChI, mO, mSl, mFrz, mBw, mBwB, mNext, frzE, iSeq, iRng1, iRng2, iRng3, iEnumD, iZipD, gN, gT, gC, gNl, mDrop, D.tru, dAdd, dSub, dMul, dMod, dFdiv, dPow, dII, dCmp, dNeg, dIs, dIsNot, D.isN, D.isB, fLen, fMax2, fMin2, T.toD, T.toDs, T.im, T.ims, D.im, D.ims, List.map_cons, List.map_nil, List.length_cons, List.length_nil, List.cons_append, List.nil_append, List.append_nil, List.replicate_zero, List.replicate_succ, List.getElem?_cons_zero, List.getElem?_cons_succ, List.set_cons_zero, List.set_cons_succ, Nat.reduceAdd, Nat.reduceSub, Nat.reduceLT, Nat.reduceLeDiff, Nat.zero_add, Nat.sub_self, Option.map_some, Option.map_none, if_true, if_false, decide_true, decide_false, Bool.and_true, Bool.true_and, Bool.false_and, Bool.and_false, Bool.not_true, Bool.not_false, reduceIte, reduceCtorEq, szl, Nat.zero_le, List.length_map, dEq, dNe, dIx, dSl, toDs_p, toDs_g, toDs_gi, toDs_gp, List.map_map, Int.reduceLT, Int.reduceLE, Int.reduceAdd, Int.reduceSub, decide_not, dEqB_nn, dEqB_ints0, dEqB_ints, dEqB_int, dEqB_bl, List.map_append, fIsi, D.tyN, Option.bind_some, fSum, fAny, fAll, ints_g, bls_g, D.ints_map, kit_int_int, kit_bool_int, kit_NoneType_int, kit_str_int, kit_list_int, kit_tuple_int, kit_dict_int, kit_int_bool, kit_bool_bool, kit_NoneType_bool, kit_str_bool, kit_list_bool, kit_tuple_bool, kit_dict_bool, kit_int_list, kit_bool_list, kit_NoneType_list, kit_str_list, kit_list_list, kit_tuple_list, kit_dict_list, kit_int_tuple, kit_bool_tuple, kit_NoneType_tuple, kit_str_tuple, kit_list_tuple, kit_tuple_tuple, kit_dict_tuple, kit_int_str, kit_bool_str, kit_NoneType_str, kit_str_str, kit_list_str, kit_tuple_str, kit_dict_str, nc0, nc1, nc2, nc3, nc4, nc5, nc6, nc7, nc8, toDs_c, dEqB_dS0, fMin1, fMax1, toDs_append, hx1, tJ, tM, tW, hx2, hfa, heq]
      · unfold mApp1
        simp only [List.getElem?_cons_zero, List.getElem?_cons_succ, mV, List.length_cons, List.length_nil, Nat.reduceAdd, hix, hj1, tS]
        have e9 : mTup (mCons (mC (.int 0)) (mCons (mC (.int 0)) mNil)) [some (.p A), some (.p B), some (.p (.lst [A, B])), some (.p (.int k)), some (.l [s0, s1, s2]), some (.l [tS J2, tS M2, tS W2]), some (.p (.int (j : Nat)))] = .ok (.p (dP (0, 0))) := by simp only [mDef, env0, mSeq, mAsg, mAsgF, mAsgT, mB, mV, mC, mRet, mRetV, mIfS, asB, mCall, mCons, mNil, mConsT, mNilT, mL, mTup, mCB, mIf, mNot, mAnd, mOr, mTru, mAndV, mOrV, mNotV, mU, mChI, mO, mSl, mFrz, mBw, mBwB, mNext, frzE, iSeq, iRng1, iRng2, iRng3, iEnumD, iZipD, gN, gT, gC, gNl, mDrop, D.tru, dAdd, dSub, dMul, dMod, dFdiv, dPow, dII, dCmp, dNeg, dIs, dIsNot, D.isN, D.isB, fLen, fMax2, fMin2, T.toD, T.toDs, T.im, T.ims, D.im, D.ims, List.map_cons, List.map_nil, List.length_cons, List.length_nil, List.cons_append, List.nil_append, List.append_nil, List.replicate_zero, List.replicate_succ, List.getElem?_cons_zero, List.getElem?_cons_succ, List.set_cons_zero, List.set_cons_succ, Nat.reduceAdd, Nat.reduceSub, Nat.reduceLT, Nat.reduceLeDiff, Nat.zero_add, Nat.sub_self, Option.map_some, Option.map_none, if_true, if_false, decide_true, decide_false, Bool.and_true, Bool.true_and, Bool.false_and, Bool.and_false, Bool.not_true, Bool.not_false, reduceIte, reduceCtorEq, szl, Nat.zero_le, List.length_map, dEq, dNe, dIx, dSl, toDs_p, toDs_g, toDs_gi, toDs_gp, List.map_map, Int.reduceLT, Int.reduceLE, Int.reduceAdd, Int.reduceSub, decide_not, dEqB_nn, dEqB_ints0, dEqB_ints, dEqB_int, dEqB_bl, List.map_append, fIsi, D.tyN, Option.bind_some, fSum, fAny, fAll, ints_g, bls_g, D.ints_map, kit_int_int, kit_bool_int, kit_NoneType_int, kit_str_int, kit_list_int, kit_tuple_int, kit_dict_int, kit_int_bool, kit_bool_bool, kit_NoneType_bool, kit_str_bool, kit_list_bool, kit_tuple_bool, kit_dict_bool, kit_int_list, kit_bool_list, kit_NoneType_list, kit_str_list, kit_list_list, kit_tuple_list, kit_dict_list, kit_int_tuple, kit_bool_tuple, kit_NoneType_tuple, kit_str_tuple, kit_list_tuple, kit_tuple_tuple, kit_dict_tuple, kit_int_str, kit_bool_str, kit_NoneType_str, kit_str_str, kit_list_str, kit_tuple_str, kit_dict_str, nc0, nc1, nc2, nc3, nc4, nc5, nc6, nc7, nc8, toDs_c, dEqB_dS0, fMin1, fMax1, toDs_append, Nat.reduceLeDiff]
        unfold tS at e9
        rw [e9]
        simp only [T.toD]
        rw [if_pos nl]
        rfl
    obtain ⟨uJ, huJ⟩ : ∃ u : T, u = .l ((J2.map fun p => T.p (dP p)) ++ [.p (dP (0, 0))]) := ⟨_, rfl⟩
    obtain ⟨uM, huM⟩ : ∃ u : T, u = .l ((M2.map fun p => T.p (dP p)) ++ [.p (dP (0, 0))]) := ⟨_, rfl⟩
    obtain ⟨uW, huW⟩ : ∃ u : T, u = .l ((W2.map fun p => T.p (dP p)) ++ [.p (dP (0, 0))]) := ⟨_, rfl⟩
    have k0 := step (tS J2) (tS M2) (tS W2) 0 J2 x6 lJ aJ rfl rfl (by decide)
    have k1 := step uJ (tS M2) (tS W2) 1 M2 x6 lM aM rfl rfl (by decide)
    have k2 := step uJ uM (tS W2) 2 W2 x6 lW aW rfl rfl (by decide)
    rw [← huJ] at k0
    rw [← huM] at k1
    rw [← huW] at k2
    rw [← huJ, ← huM, ← huW]
    simp only [List.set_cons_zero, List.set_cons_succ] at k0 k1 k2
    generalize (mSeq (mIfS (mBwB (mOr (mNot (mTru (mCall 2 fa (mCons (mB dIx (mV 4) (mV 6)) (mCons (mB dIx (mV 5) (mV 6)) mNil))))) (asB (mB dNe (mV 2) (mL (mConsT (mV 0) (mConsT (mV 1) mNilT)))))))
  (mRet (mC (.bl false)))
  mNext)
  (mApp1 4 (mV 6) (mTup (mCons (mC (.int 0)) (mCons (mC (.int 0)) mNil))))) = body at *
    have hi : iRng1 (mCons (mC (.int 3)) mNil) [some (.p A), some (.p B), some (.p (.lst [A, B])), some (.p (.int k)), some (.l [tS J2, tS M2, tS W2]), some (.l [tS J2, tS M2, tS W2]), x6] = .ok [.int ((0 : Nat) : Int), .int ((1 : Nat) : Int), .int ((2 : Nat) : Int)] := by
      unfold iRng1 mCons
      simp only [mC, mNil, T.toD]
      rw [if_pos (by decide)]
      rfl
    have gn : ∀ (v : D) (s5 : T) (y6 : Option T), gN 6 v [some (.p A), some (.p B), some (.p (.lst [A, B])), some (.p (.int k)), some s5, some (.l [tS J2, tS M2, tS W2]), y6] = some [some (.p A), some (.p B), some (.p (.lst [A, B])), some (.p (.int k)), some s5, some (.l [tS J2, tS M2, tS W2]), some (.p v)] := fun v s5 y6 => rfl
    unfold mFor
    rw [hi]
    simp only
    unfold mForL
    rw [gn]
    simp only
    rw [k0]
    simp only
    unfold mForL
    rw [gn]
    simp only
    rw [k1]
    simp only
    unfold mForL
    rw [gn]
    simp only
    rw [k2]
    simp only
    unfold mForL
    rfl
  · rintro e ⟨x3, x4, x5, x6, rfl⟩
    simp only [mDef, env0, mSeq, mAsg, mAsgF, mAsgT, mB, mV, mC, mRet, mRetV, mIfS, asB, mCall, mCons, mNil, mConsT, mNilT, mL, mTup, mCB, mIf, mNot, mAnd, mOr, mTru, mAndV, mOrV, mNotV, mU, mChI, mO, mSl, mFrz, mBw, mBwB, mNext, frzE, iSeq, iRng1, iRng2, iRng3, iEnumD, iZipD, gN, gT, gC, gNl, mDrop, D.tru, dAdd, dSub, dMul, dMod, dFdiv, dPow, dII, dCmp, dNeg, dIs, dIsNot, D.isN, D.isB, fLen, fMax2, fMin2, T.toD, T.toDs, T.im, T.ims, D.im, D.ims, List.map_cons, List.map_nil, List.length_cons, List.length_nil, List.cons_append, List.nil_append, List.append_nil, List.replicate_zero, List.replicate_succ, List.getElem?_cons_zero, List.getElem?_cons_succ, List.set_cons_zero, List.set_cons_succ, Nat.reduceAdd, Nat.reduceSub, Nat.reduceLT, Nat.reduceLeDiff, Nat.zero_add, Nat.sub_self, Option.map_some, Option.map_none, if_true, if_false, decide_true, decide_false, Bool.and_true, Bool.true_and, Bool.false_and, Bool.and_false, Bool.not_true, Bool.not_false, reduceIte, reduceCtorEq, szl, Nat.zero_le, List.length_map, dEq, dNe, dIx, dSl, toDs_p, toDs_g, toDs_gi, toDs_gp, List.map_map, Int.reduceLT, Int.reduceLE, Int.reduceAdd, Int.reduceSub, decide_not, dEqB_nn, dEqB_ints0, dEqB_ints, dEqB_int, dEqB_bl, List.map_append, fIsi, D.tyN, Option.bind_some, fSum, fAny, fAll, ints_g, bls_g, D.ints_map, kit_int_int, kit_bool_int, kit_NoneType_int, kit_str_int, kit_list_int, kit_tuple_int, kit_dict_int, kit_int_bool, kit_bool_bool, kit_NoneType_bool, kit_str_bool, kit_list_bool, kit_tuple_bool, kit_dict_bool, kit_int_list, kit_bool_list, kit_NoneType_list, kit_str_list, kit_list_list, kit_tuple_list, kit_dict_list, kit_int_tuple, kit_bool_tuple, kit_NoneType_tuple, kit_str_tuple, kit_list_tuple, kit_tuple_tuple, kit_dict_tuple, kit_int_str, kit_bool_str, kit_NoneType_str, kit_str_str, kit_list_str, kit_tuple_str, kit_dict_str, nc0, nc1, nc2, nc3, nc4, nc5, nc6, nc7, nc8, toDs_c, dEqB_dS0, fMin1, fMax1, toDs_append]
theorem law_true : ∀ ns : List Int, ns.length ≤ 63 → M_law [.lst (ns.map D.int)] = .ok (.p (.bl true)) := by
  intro ns hl
  have amg : HAmong M_is_among := g_is_among g_is_whole
  have ned : HNeed M_need_stretches := g_need (g_are (g_is_stretch amg))
  have mix : HMixed M__law_mixed := g_mixed
  have two : HTwo M__law_two := g_two (g_number mix) mix g_pieces
  have eo : HOv M_overlaps := g_ov
  have eg : HGaps M_gaps := g_gaps
  have rt : HRight M__law_right := g_right (g_without ned eo eg) (g_met ned eo) (g_joined ned) g_by g_areL
  unfold M_law
  clear amg ned mix eo eg
  generalize M__law_two = ft at *
  generalize M__law_right = fr at *
  obtain ⟨t, ⟨ps, qs, g1, g2, rfl⟩, ht⟩ := two ns hl
  have r1 := rt ps qs g1 g2
  have r2 := rt qs ps g2 g1
  have r3 := rt ps [] g1 good_nil
  have r4 := rt ps ps g1 g1
  have r5 := rt [] qs good_nil g2
  have en : dS [] = .lst [] := rfl
  rw [en] at r3 r5
  unfold G_law
  apply mDef_rt
  refine mSeq_step (e1 := [some (.p (.lst (ns.map D.int))), some (.p (dS ps)), some (.p (dS qs))]) (by simp only [mDef, env0, mSeq, mAsg, mAsgF, mAsgT, mB, mV, mC, mRet, mRetV, mIfS, asB, mCall, mCons, mNil, mConsT, mNilT, mL, mTup, mCB, mIf, mNot, mAnd, mOr, mTru, mAndV, mOrV, mNotV, mU, mChI, mO, mSl, mFrz, mBw, mBwB, mNext, frzE, iSeq, iRng1, iRng2, iRng3, iEnumD, iZipD, gN, gT, gC, gNl, mDrop, D.tru, dAdd, dSub, dMul, dMod, dFdiv, dPow, dII, dCmp, dNeg, dIs, dIsNot, D.isN, D.isB, fLen, fMax2, fMin2, T.toD, T.toDs, T.im, T.ims, D.im, D.ims, List.map_cons, List.map_nil, List.length_cons, List.length_nil, List.cons_append, List.nil_append, List.append_nil, List.replicate_zero, List.replicate_succ, List.getElem?_cons_zero, List.getElem?_cons_succ, List.set_cons_zero, List.set_cons_succ, Nat.reduceAdd, Nat.reduceSub, Nat.reduceLT, Nat.reduceLeDiff, Nat.zero_add, Nat.sub_self, Option.map_some, Option.map_none, if_true, if_false, decide_true, decide_false, Bool.and_true, Bool.true_and, Bool.false_and, Bool.and_false, Bool.not_true, Bool.not_false, reduceIte, reduceCtorEq, szl, Nat.zero_le, List.length_map, dEq, dNe, dIx, dSl, toDs_p, toDs_g, toDs_gi, toDs_gp, List.map_map, Int.reduceLT, Int.reduceLE, Int.reduceAdd, Int.reduceSub, decide_not, dEqB_nn, dEqB_ints0, dEqB_ints, dEqB_int, dEqB_bl, List.map_append, fIsi, D.tyN, Option.bind_some, fSum, fAny, fAll, ints_g, bls_g, D.ints_map, kit_int_int, kit_bool_int, kit_NoneType_int, kit_str_int, kit_list_int, kit_tuple_int, kit_dict_int, kit_int_bool, kit_bool_bool, kit_NoneType_bool, kit_str_bool, kit_list_bool, kit_tuple_bool, kit_dict_bool, kit_int_list, kit_bool_list, kit_NoneType_list, kit_str_list, kit_list_list, kit_tuple_list, kit_dict_list, kit_int_tuple, kit_bool_tuple, kit_NoneType_tuple, kit_str_tuple, kit_list_tuple, kit_tuple_tuple, kit_dict_tuple, kit_int_str, kit_bool_str, kit_NoneType_str, kit_str_str, kit_list_str, kit_tuple_str, kit_dict_str, nc0, nc1, nc2, nc3, nc4, nc5, nc6, nc7, nc8, toDs_c, dEqB_dS0, fMin1, fMax1, toDs_append, ht]) ?_
  simp only [mDef, env0, mSeq, mAsg, mAsgF, mAsgT, mB, mV, mC, mRet, mRetV, mIfS, asB, mCall, mCons, mNil, mConsT, mNilT, mL, mTup, mCB, mIf, mNot, mAnd, mOr, mTru, mAndV, mOrV, mNotV, mU, mChI, mO, mSl, mFrz, mBw, mBwB, mNext, frzE, iSeq, iRng1, iRng2, iRng3, iEnumD, iZipD, gN, gT, gC, gNl, mDrop, D.tru, dAdd, dSub, dMul, dMod, dFdiv, dPow, dII, dCmp, dNeg, dIs, dIsNot, D.isN, D.isB, fLen, fMax2, fMin2, T.toD, T.toDs, T.im, T.ims, D.im, D.ims, List.map_cons, List.map_nil, List.length_cons, List.length_nil, List.cons_append, List.nil_append, List.append_nil, List.replicate_zero, List.replicate_succ, List.getElem?_cons_zero, List.getElem?_cons_succ, List.set_cons_zero, List.set_cons_succ, Nat.reduceAdd, Nat.reduceSub, Nat.reduceLT, Nat.reduceLeDiff, Nat.zero_add, Nat.sub_self, Option.map_some, Option.map_none, if_true, if_false, decide_true, decide_false, Bool.and_true, Bool.true_and, Bool.false_and, Bool.and_false, Bool.not_true, Bool.not_false, reduceIte, reduceCtorEq, szl, Nat.zero_le, List.length_map, dEq, dNe, dIx, dSl, toDs_p, toDs_g, toDs_gi, toDs_gp, List.map_map, Int.reduceLT, Int.reduceLE, Int.reduceAdd, Int.reduceSub, decide_not, dEqB_nn, dEqB_ints0, dEqB_ints, dEqB_int, dEqB_bl, List.map_append, fIsi, D.tyN, Option.bind_some, fSum, fAny, fAll, ints_g, bls_g, D.ints_map, kit_int_int, kit_bool_int, kit_NoneType_int, kit_str_int, kit_list_int, kit_tuple_int, kit_dict_int, kit_int_bool, kit_bool_bool, kit_NoneType_bool, kit_str_bool, kit_list_bool, kit_tuple_bool, kit_dict_bool, kit_int_list, kit_bool_list, kit_NoneType_list, kit_str_list, kit_list_list, kit_tuple_list, kit_dict_list, kit_int_tuple, kit_bool_tuple, kit_NoneType_tuple, kit_str_tuple, kit_list_tuple, kit_tuple_tuple, kit_dict_tuple, kit_int_str, kit_bool_str, kit_NoneType_str, kit_str_str, kit_list_str, kit_tuple_str, kit_dict_str, nc0, nc1, nc2, nc3, nc4, nc5, nc6, nc7, nc8, toDs_c, dEqB_dS0, fMin1, fMax1, toDs_append, r1, r2, r3, r4, r5]
end Nd

namespace Nd
open PySem PySem.Spec PyProof.Rows L2
/-! ### the end -/
theorem all_mk {l : PySem.W.OpenLaw} {w : World} {K : PySem.W.Frag} {h : Heap} {mg : Str → Option Value} {fa : Addr} {f0 f1 f2 f3 f4 f5 f6 f7 f8 f9 f10 f11 f12 f13 f14 f15 f16 f17 : Addr} {od0 an0 od1 an1 od2 an2 od3 an3 od4 an4 od5 an5 od6 an6 od7 an7 od8 an8 od9 an9 od10 an10 od11 an11 od12 an12 od13 an13 od14 an14 od15 an15 od16 an16 od17 an17 : Option Addr} {sl0 sl1 sl2 sl3 sl4 sl5 sl6 sl7 sl8 sl9 sl10 sl11 sl12 sl13 sl14 sl15 sl16 sl17 : Array (Option Value)} {oc0 kV0 dc0 pm0 cd0 ct0 oc1 kV1 dc1 pm1 cd1 ct1 oc2 kV2 dc2 pm2 cd2 ct2 oc3 kV3 dc3 pm3 cd3 ct3 oc4 kV4 dc4 pm4 cd4 ct4 oc5 kV5 dc5 pm5 cd5 ct5 oc6 kV6 dc6 pm6 cd6 ct6 oc7 kV7 dc7 pm7 cd7 ct7 oc8 kV8 dc8 pm8 cd8 ct8 oc9 kV9 dc9 pm9 cd9 ct9 oc10 kV10 dc10 pm10 cd10 ct10 oc11 kV11 dc11 pm11 cd11 ct11 oc12 kV12 dc12 pm12 cd12 ct12 oc13 kV13 dc13 pm13 cd13 ct13 oc14 kV14 dc14 pm14 cd14 ct14 oc15 kV15 dc15 pm15 cd15 ct15 oc16 kV16 dc16 pm16 cd16 ct16 oc17 kV17 dc17 pm17 cd17 ct17 : Value} {t_LAST_MINUTE t_MOST_STRETCHES : Tok} (X : K.In h) (G : h.Ns mainGlobals mg) (hfa : mg "law" = some (.ref fa))
    (a0 : PySem.W.nsIn K mainGlobals "_law_mixed" = some (some (.ref f0)))
    (l0 : K.lookup f0 = some ⟨oc0, od0, .func (PySem.W.fnOf "_law_mixed" "_law_mixed" (defArgs s__law_mixed) (defBody s__law_mixed) (defScope s__law_mixed) .none kV0 dc0 pm0 an0 cd0 ct0), sl0⟩) (c0 : PySem.W.codeIn K cd0 "_law_mixed" = true) (k0 : PySem.W.keepIn K (.ref f0) = true)
    (a1 : PySem.W.nsIn K mainGlobals "_law_number" = some (some (.ref f1)))
    (l1 : K.lookup f1 = some ⟨oc1, od1, .func (PySem.W.fnOf "_law_number" "_law_number" (defArgs s__law_number) (defBody s__law_number) (defScope s__law_number) .none kV1 dc1 pm1 an1 cd1 ct1), sl1⟩) (c1 : PySem.W.codeIn K cd1 "_law_number" = true) (k1 : PySem.W.keepIn K (.ref f1) = true)
    (a2 : PySem.W.nsIn K mainGlobals "_law_pieces" = some (some (.ref f2)))
    (l2 : K.lookup f2 = some ⟨oc2, od2, .func (PySem.W.fnOf "_law_pieces" "_law_pieces" (defArgs s__law_pieces) (defBody s__law_pieces) (defScope s__law_pieces) .none kV2 dc2 pm2 an2 cd2 ct2), sl2⟩) (c2 : PySem.W.codeIn K cd2 "_law_pieces" = true) (k2 : PySem.W.keepIn K (.ref f2) = true)
    (a3 : PySem.W.nsIn K mainGlobals "_law_two" = some (some (.ref f3)))
    (l3 : K.lookup f3 = some ⟨oc3, od3, .func (PySem.W.fnOf "_law_two" "_law_two" (defArgs s__law_two) (defBody s__law_two) (defScope s__law_two) .none kV3 dc3 pm3 an3 cd3 ct3), sl3⟩) (c3 : PySem.W.codeIn K cd3 "_law_two" = true) (k3 : PySem.W.keepIn K (.ref f3) = true)
    (a4 : PySem.W.nsIn K mainGlobals "is_whole" = some (some (.ref f4)))
    (l4 : K.lookup f4 = some ⟨oc4, od4, .func (PySem.W.fnOf "is_whole" "is_whole" (defArgs s_is_whole) (defBody s_is_whole) (defScope s_is_whole) .none kV4 dc4 pm4 an4 cd4 ct4), sl4⟩) (c4 : PySem.W.codeIn K cd4 "is_whole" = true) (k4 : PySem.W.keepIn K (.ref f4) = true)
    (a5 : PySem.W.nsIn K mainGlobals "is_among" = some (some (.ref f5)))
    (l5 : K.lookup f5 = some ⟨oc5, od5, .func (PySem.W.fnOf "is_among" "is_among" (defArgs s_is_among) (defBody s_is_among) (defScope s_is_among) .none kV5 dc5 pm5 an5 cd5 ct5), sl5⟩) (c5 : PySem.W.codeIn K cd5 "is_among" = true) (k5 : PySem.W.keepIn K (.ref f5) = true)
    (a6 : PySem.W.nsIn K mainGlobals "is_stretch" = some (some (.ref f6)))
    (l6 : K.lookup f6 = some ⟨oc6, od6, .func (PySem.W.fnOf "is_stretch" "is_stretch" (defArgs s_is_stretch) (defBody s_is_stretch) (defScope s_is_stretch) .none kV6 dc6 pm6 an6 cd6 ct6), sl6⟩) (c6 : PySem.W.codeIn K cd6 "is_stretch" = true) (k6 : PySem.W.keepIn K (.ref f6) = true)
    (a7 : PySem.W.nsIn K mainGlobals "are_stretches" = some (some (.ref f7)))
    (l7 : K.lookup f7 = some ⟨oc7, od7, .func (PySem.W.fnOf "are_stretches" "are_stretches" (defArgs s_are_stretches) (defBody s_are_stretches) (defScope s_are_stretches) .none kV7 dc7 pm7 an7 cd7 ct7), sl7⟩) (c7 : PySem.W.codeIn K cd7 "are_stretches" = true) (k7 : PySem.W.keepIn K (.ref f7) = true)
    (a8 : PySem.W.nsIn K mainGlobals "need_stretches" = some (some (.ref f8)))
    (l8 : K.lookup f8 = some ⟨oc8, od8, .func (PySem.W.fnOf "need_stretches" "need_stretches" (defArgs s_need_stretches) (defBody s_need_stretches) (defScope s_need_stretches) .none kV8 dc8 pm8 an8 cd8 ct8), sl8⟩) (c8 : PySem.W.codeIn K cd8 "need_stretches" = true) (k8 : PySem.W.keepIn K (.ref f8) = true)
    (a9 : PySem.W.nsIn K mainGlobals "overlaps" = some (some (.ref f9)))
    (l9 : K.lookup f9 = some ⟨oc9, od9, .func (PySem.W.fnOf "overlaps" "overlaps" (defArgs s_overlaps) (defBody s_overlaps) (defScope s_overlaps) .none kV9 dc9 pm9 an9 cd9 ct9), sl9⟩) (c9 : PySem.W.codeIn K cd9 "overlaps" = true) (k9 : PySem.W.keepIn K (.ref f9) = true)
    (a10 : PySem.W.nsIn K mainGlobals "gaps" = some (some (.ref f10)))
    (l10 : K.lookup f10 = some ⟨oc10, od10, .func (PySem.W.fnOf "gaps" "gaps" (defArgs s_gaps) (defBody s_gaps) (defScope s_gaps) .none kV10 dc10 pm10 an10 cd10 ct10), sl10⟩) (c10 : PySem.W.codeIn K cd10 "gaps" = true) (k10 : PySem.W.keepIn K (.ref f10) = true)
    (a11 : PySem.W.nsIn K mainGlobals "without" = some (some (.ref f11)))
    (l11 : K.lookup f11 = some ⟨oc11, od11, .func (PySem.W.fnOf "without" "without" (defArgs s_without) (defBody s_without) (defScope s_without) .none kV11 dc11 pm11 an11 cd11 ct11), sl11⟩) (c11 : PySem.W.codeIn K cd11 "without" = true) (k11 : PySem.W.keepIn K (.ref f11) = true)
    (a12 : PySem.W.nsIn K mainGlobals "met" = some (some (.ref f12)))
    (l12 : K.lookup f12 = some ⟨oc12, od12, .func (PySem.W.fnOf "met" "met" (defArgs s_met) (defBody s_met) (defScope s_met) .none kV12 dc12 pm12 an12 cd12 ct12), sl12⟩) (c12 : PySem.W.codeIn K cd12 "met" = true) (k12 : PySem.W.keepIn K (.ref f12) = true)
    (a13 : PySem.W.nsIn K mainGlobals "joined" = some (some (.ref f13)))
    (l13 : K.lookup f13 = some ⟨oc13, od13, .func (PySem.W.fnOf "joined" "joined" (defArgs s_joined) (defBody s_joined) (defScope s_joined) .none kV13 dc13 pm13 an13 cd13 ct13), sl13⟩) (c13 : PySem.W.codeIn K cd13 "joined" = true) (k13 : PySem.W.keepIn K (.ref f13) = true)
    (a14 : PySem.W.nsIn K mainGlobals "_law_by" = some (some (.ref f14)))
    (l14 : K.lookup f14 = some ⟨oc14, od14, .func (PySem.W.fnOf "_law_by" "_law_by" (defArgs s__law_by) (defBody s__law_by) (defScope s__law_by) .none kV14 dc14 pm14 an14 cd14 ct14), sl14⟩) (c14 : PySem.W.codeIn K cd14 "_law_by" = true) (k14 : PySem.W.keepIn K (.ref f14) = true)
    (a15 : PySem.W.nsIn K mainGlobals "_law_are" = some (some (.ref f15)))
    (l15 : K.lookup f15 = some ⟨oc15, od15, .func (PySem.W.fnOf "_law_are" "_law_are" (defArgs s__law_are) (defBody s__law_are) (defScope s__law_are) .none kV15 dc15 pm15 an15 cd15 ct15), sl15⟩) (c15 : PySem.W.codeIn K cd15 "_law_are" = true) (k15 : PySem.W.keepIn K (.ref f15) = true)
    (a16 : PySem.W.nsIn K mainGlobals "_law_right" = some (some (.ref f16)))
    (l16 : K.lookup f16 = some ⟨oc16, od16, .func (PySem.W.fnOf "_law_right" "_law_right" (defArgs s__law_right) (defBody s__law_right) (defScope s__law_right) .none kV16 dc16 pm16 an16 cd16 ct16), sl16⟩) (c16 : PySem.W.codeIn K cd16 "_law_right" = true) (k16 : PySem.W.keepIn K (.ref f16) = true)
    (a17 : PySem.W.nsIn K mainGlobals "law" = some (some (.ref f17)))
    (l17 : K.lookup f17 = some ⟨oc17, od17, .func (PySem.W.fnOf "law" "law" (defArgs s_law) (defBody s_law) (defScope s_law) .none kV17 dc17 pm17 an17 cd17 ct17), sl17⟩) (c17 : PySem.W.codeIn K cd17 "law" = true) (k17 : PySem.W.keepIn K (.ref f17) = true)
    (z_bool : PySem.W.nsIn K mainGlobals "bool" = some none)
    (z_enumerate : PySem.W.nsIn K mainGlobals "enumerate" = some none)
    (z_int : PySem.W.nsIn K mainGlobals "int" = some none)
    (z_isinstance : PySem.W.nsIn K mainGlobals "isinstance" = some none)
    (z_len : PySem.W.nsIn K mainGlobals "len" = some none)
    (z_list : PySem.W.nsIn K mainGlobals "list" = some none)
    (z_max : PySem.W.nsIn K mainGlobals "max" = some none)
    (z_min : PySem.W.nsIn K mainGlobals "min" = some none)
    (z_range : PySem.W.nsIn K mainGlobals "range" = some none)
    (z_set : PySem.W.nsIn K mainGlobals "set" = some none)
    (z_sorted : PySem.W.nsIn K mainGlobals "sorted" = some none)
    (z_tuple : PySem.W.nsIn K mainGlobals "tuple" = some none)
    (z_zip : PySem.W.nsIn K mainGlobals "zip" = some none)
    (c_LAST_MINUTE : PySem.W.nsIn K mainGlobals "LAST_MINUTE" = some (some (.int 1000000 t_LAST_MINUTE)))
    (c_MOST_STRETCHES : PySem.W.nsIn K mainGlobals "MOST_STRETCHES" = some (some (.int 2000 t_MOST_STRETCHES))) :
    ∃ fd : FuncData, (∀ (s : Shared) (v : Value), BindsTo s fd ⟨[v], []⟩ [(PySem.Str.ofString "_law_script", v)]) ∧ ∀ base : Heap, K.In base → base.Ns mainGlobals mg → FnG l.prog w K mg base (L2.CX l.prog w) 8 fa fd [PySem.Str.ofString "_law_script"] (spLaw K) := by
  have e := hfa.symm.trans (PySem.W.mg_of X G a17)
  cases e
  obtain ⟨CL, hCL⟩ : ∃ c, c = clOf [] := ⟨_, rfl⟩
  have T : Tx K CL mg := ⟨PySem.W.mg_none_of X G z_bool, PySem.W.mg_none_of X G z_enumerate, PySem.W.mg_none_of X G z_int, PySem.W.mg_none_of X G z_isinstance, PySem.W.mg_none_of X G z_len, PySem.W.mg_none_of X G z_list, PySem.W.mg_none_of X G z_max, PySem.W.mg_none_of X G z_min, PySem.W.mg_none_of X G z_range, PySem.W.mg_none_of X G z_set, PySem.W.mg_none_of X G z_sorted, PySem.W.mg_none_of X G z_tuple, PySem.W.mg_none_of X G z_zip, ⟨_, PySem.W.mg_of X G c_LAST_MINUTE⟩, ⟨_, PySem.W.mg_of X G c_MOST_STRETCHES⟩⟩
  have F0 := fun_mk (st := s__law_mixed) l0 c0 k0
  have F1 := fun_mk (st := s__law_number) l1 c1 k1
  have F2 := fun_mk (st := s__law_pieces) l2 c2 k2
  have F3 := fun_mk (st := s__law_two) l3 c3 k3
  have F4 := fun_mk (st := s_is_whole) l4 c4 k4
  have F5 := fun_mk (st := s_is_among) l5 c5 k5
  have F6 := fun_mk (st := s_is_stretch) l6 c6 k6
  have F7 := fun_mk (st := s_are_stretches) l7 c7 k7
  have F8 := fun_mk (st := s_need_stretches) l8 c8 k8
  have F9 := fun_mk (st := s_overlaps) l9 c9 k9
  have F10 := fun_mk (st := s_gaps) l10 c10 k10
  have F11 := fun_mk (st := s_without) l11 c11 k11
  have F12 := fun_mk (st := s_met) l12 c12 k12
  have F13 := fun_mk (st := s_joined) l13 c13 k13
  have F14 := fun_mk (st := s__law_by) l14 c14 k14
  have F15 := fun_mk (st := s__law_are) l15 c15 k15
  have F16 := fun_mk (st := s__law_right) l16 c16 k16
  have F17 := fun_mk (st := s_law) l17 c17 k17
  refine ⟨PySem.W.fnOf "law" "law" (defArgs s_law) (defBody s_law) (defScope s_law) .none kV17 dc17 pm17 an17 cd17 ct17, fun s v => .of_eq rfl, fun base _ _ => ?_⟩
  have b0 := F0.binds (ps := [PySem.Str.ofString "_law_number_here", PySem.Str.ofString "_law_k"]) fun _ _ _ _ _ _ us hl => match us, hl with | [_, _], _ => rfl
  have D0 : Dn l.prog w K mg base CL 1 "_law_mixed" 2 M__law_mixed := Dn.mk' F0 b0 (PySem.W.mg_of X G a0) (ok__law_mixed F0 T)
  have b1 := F1.binds (ps := [PySem.Str.ofString "_law_script", PySem.Str.ofString "_law_k"]) fun _ _ _ _ _ _ us hl => match us, hl with | [_, _], _ => rfl
  have D1 : Dn l.prog w K mg base CL 2 "_law_number" 2 M__law_number := Dn.mk' F1 b1 (PySem.W.mg_of X G a1) (ok__law_number F1 T D0)
  have b2 := F2.binds (ps := [PySem.Str.ofString "_law_points"]) fun _ _ _ _ _ _ us hl => match us, hl with | [_], _ => rfl
  have D2 : Dn l.prog w K mg base CL 1 "_law_pieces" 1 M__law_pieces := Dn.mk' F2 b2 (PySem.W.mg_of X G a2) (ok__law_pieces F2 T)
  have b3 := F3.binds (ps := [PySem.Str.ofString "_law_script"]) fun _ _ _ _ _ _ us hl => match us, hl with | [_], _ => rfl
  have D3 : Dn l.prog w K mg base CL 3 "_law_two" 1 M__law_two := Dn.mk' F3 b3 (PySem.W.mg_of X G a3) (ok__law_two F3 T D1 D0 D2)
  have b4 := F4.binds (ps := [PySem.Str.ofString "thing"]) fun _ _ _ _ _ _ us hl => match us, hl with | [_], _ => rfl
  have D4 : Dn l.prog w K mg base CL 1 "is_whole" 1 M_is_whole := Dn.mk' F4 b4 (PySem.W.mg_of X G a4) (ok_is_whole F4 T)
  have b5 := F5.binds (ps := [PySem.Str.ofString "thing", PySem.Str.ofString "least", PySem.Str.ofString "most"]) fun _ _ _ _ _ _ us hl => match us, hl with | [_, _, _], _ => rfl
  have D5 : Dn l.prog w K mg base CL 2 "is_among" 3 M_is_among := Dn.mk' F5 b5 (PySem.W.mg_of X G a5) (ok_is_among F5 T D4)
  have b6 := F6.binds (ps := [PySem.Str.ofString "thing"]) fun _ _ _ _ _ _ us hl => match us, hl with | [_], _ => rfl
  have D6 : Dn l.prog w K mg base CL 3 "is_stretch" 1 M_is_stretch := Dn.mk' F6 b6 (PySem.W.mg_of X G a6) (ok_is_stretch F6 T D5)
  have b7 := F7.binds (ps := [PySem.Str.ofString "thing"]) fun _ _ _ _ _ _ us hl => match us, hl with | [_], _ => rfl
  have D7 : Dn l.prog w K mg base CL 4 "are_stretches" 1 M_are_stretches := Dn.mk' F7 b7 (PySem.W.mg_of X G a7) (ok_are_stretches F7 T D6)
  have b8 := F8.binds (ps := [PySem.Str.ofString "thing"]) fun _ _ _ _ _ _ us hl => match us, hl with | [_], _ => rfl
  have D8 : Dn l.prog w K mg base CL 5 "need_stretches" 1 M_need_stretches := Dn.mk' F8 b8 (PySem.W.mg_of X G a8) (ok_need_stretches F8 T D7)
  have b9 := F9.binds (ps := [PySem.Str.ofString "one", PySem.Str.ofString "other"]) fun _ _ _ _ _ _ us hl => match us, hl with | [_, _], _ => rfl
  have D9 : Dn l.prog w K mg base CL 1 "overlaps" 2 M_overlaps := Dn.mk' F9 b9 (PySem.W.mg_of X G a9) (ok_overlaps F9 T)
  have b10 := F10.binds (ps := [PySem.Str.ofString "one", PySem.Str.ofString "first", PySem.Str.ofString "last"]) fun _ _ _ _ _ _ us hl => match us, hl with | [_, _, _], _ => rfl
  have D10 : Dn l.prog w K mg base CL 1 "gaps" 3 M_gaps := Dn.mk' F10 b10 (PySem.W.mg_of X G a10) (ok_gaps F10 T)
  have b11 := F11.binds (ps := [PySem.Str.ofString "one", PySem.Str.ofString "other"]) fun _ _ _ _ _ _ us hl => match us, hl with | [_, _], _ => rfl
  have D11 : Dn l.prog w K mg base CL 6 "without" 2 M_without := Dn.mk' F11 b11 (PySem.W.mg_of X G a11) (ok_without F11 T D8 D9 D10)
  have b12 := F12.binds (ps := [PySem.Str.ofString "one", PySem.Str.ofString "other"]) fun _ _ _ _ _ _ us hl => match us, hl with | [_, _], _ => rfl
  have D12 : Dn l.prog w K mg base CL 6 "met" 2 M_met := Dn.mk' F12 b12 (PySem.W.mg_of X G a12) (ok_met F12 T D8 D9)
  have b13 := F13.binds (ps := [PySem.Str.ofString "one", PySem.Str.ofString "other"]) fun _ _ _ _ _ _ us hl => match us, hl with | [_, _], _ => rfl
  have D13 : Dn l.prog w K mg base CL 6 "joined" 2 M_joined := Dn.mk' F13 b13 (PySem.W.mg_of X G a13) (ok_joined F13 T D8)
  have b14 := F14.binds (ps := [PySem.Str.ofString "_law_one", PySem.Str.ofString "_law_other", PySem.Str.ofString "_law_wanted"]) fun _ _ _ _ _ _ us hl => match us, hl with | [_, _, _], _ => rfl
  have D14 : Dn l.prog w K mg base CL 1 "_law_by" 3 M__law_by := Dn.mk' F14 b14 (PySem.W.mg_of X G a14) (ok__law_by F14 T)
  have b15 := F15.binds (ps := [PySem.Str.ofString "_law_found", PySem.Str.ofString "_law_due"]) fun _ _ _ _ _ _ us hl => match us, hl with | [_, _], _ => rfl
  have D15 : Dn l.prog w K mg base CL 1 "_law_are" 2 M__law_are := Dn.mk' F15 b15 (PySem.W.mg_of X G a15) (ok__law_are F15 T)
  have b16 := F16.binds (ps := [PySem.Str.ofString "_law_one", PySem.Str.ofString "_law_other"]) fun _ _ _ _ _ _ us hl => match us, hl with | [_, _], _ => rfl
  have D16 : Dn l.prog w K mg base CL 7 "_law_right" 2 M__law_right := Dn.mk' F16 b16 (PySem.W.mg_of X G a16) (ok__law_right F16 T D11 D12 D13 D14 D15)
  exact (ok_law F17 T D3 D16).imp (spLaw_of law_true)
end Nd
open PySem PySem.W PyProof.Rows
set_option maxHeartbeats 0 in
theorem PySem.Challenge.cw_nightdeal_k02_whole_joined_met_without_holds : PySem.Challenge.rw_nightdeal_k02_whole_joined_met_without.Holds := by
  w_on; o_law; k_head; (case hw => w_witness2)
  k_fill
  refine Nd.walk_ofG (l := PySem.Challenge.rw_nightdeal_k02_whole_joined_met_without) (n := 63) (k := 8) (x := PySem.Str.ofString "_law_script") (CX := fun w => L2.CX PySem.Challenge.rw_nightdeal_k02_whole_joined_met_without.prog w) (sp := fun w => Nd.spLaw _) rfl (by decide) rfl ⟨⟨rfl, by decide, by decide⟩, rfl⟩ (fun w h Y => PySem.W.kIn_of Y) ?F (fun _ _ a ns hl hS => ⟨a, ns, rfl, hS, hl, fun _ => rfl⟩) (fun w H s e s' => Nd.noCX _ w H s e s')
  case F =>
    intro w mg fa h KX G hmg
    refine' Nd.all_mk KX G hmg ?a0 ?l0 ?c0 ?k0 ?a1 ?l1 ?c1 ?k1 ?a2 ?l2 ?c2 ?k2 ?a3 ?l3 ?c3 ?k3 ?a4 ?l4 ?c4 ?k4 ?a5 ?l5 ?c5 ?k5 ?a6 ?l6 ?c6 ?k6 ?a7 ?l7 ?c7 ?k7 ?a8 ?l8 ?c8 ?k8 ?a9 ?l9 ?c9 ?k9 ?a10 ?l10 ?c10 ?k10 ?a11 ?l11 ?c11 ?k11 ?a12 ?l12 ?c12 ?k12 ?a13 ?l13 ?c13 ?k13 ?a14 ?l14 ?c14 ?k14 ?a15 ?l15 ?c15 ?k15 ?a16 ?l16 ?c16 ?k16 ?a17 ?l17 ?c17 ?k17 ?z_bool ?z_enumerate ?z_int ?z_isinstance ?z_len ?z_list ?z_max ?z_min ?z_range ?z_set ?z_sorted ?z_tuple ?z_zip ?c_LAST_MINUTE ?c_MOST_STRETCHES
    (case a0 => k_is); (case l0 => k_is); (case c0 => k_is); (case k0 => k_is); (case a1 => k_is); (case l1 => k_is); (case c1 => k_is); (case k1 => k_is); (case a2 => k_is); (case l2 => k_is); (case c2 => k_is); (case k2 => k_is); (case a3 => k_is); (case l3 => k_is); (case c3 => k_is); (case k3 => k_is); (case a4 => k_is); (case l4 => k_is); (case c4 => k_is); (case k4 => k_is); (case a5 => k_is); (case l5 => k_is); (case c5 => k_is); (case k5 => k_is); (case a6 => k_is); (case l6 => k_is); (case c6 => k_is); (case k6 => k_is); (case a7 => k_is); (case l7 => k_is); (case c7 => k_is); (case k7 => k_is); (case a8 => k_is); (case l8 => k_is); (case c8 => k_is); (case k8 => k_is); (case a9 => k_is); (case l9 => k_is); (case c9 => k_is); (case k9 => k_is); (case a10 => k_is); (case l10 => k_is); (case c10 => k_is); (case k10 => k_is); (case a11 => k_is); (case l11 => k_is); (case c11 => k_is); (case k11 => k_is); (case a12 => k_is); (case l12 => k_is); (case c12 => k_is); (case k12 => k_is); (case a13 => k_is); (case l13 => k_is); (case c13 => k_is); (case k13 => k_is); (case a14 => k_is); (case l14 => k_is); (case c14 => k_is); (case k14 => k_is); (case a15 => k_is); (case l15 => k_is); (case c15 => k_is); (case k15 => k_is); (case a16 => k_is); (case l16 => k_is); (case c16 => k_is); (case k16 => k_is); (case a17 => k_is); (case l17 => k_is); (case c17 => k_is); (case k17 => k_is); (case z_bool => k_is); (case z_enumerate => k_is); (case z_int => k_is); (case z_isinstance => k_is); (case z_len => k_is); (case z_list => k_is); (case z_max => k_is); (case z_min => k_is); (case z_range => k_is); (case z_set => k_is); (case z_sorted => k_is); (case z_tuple => k_is); (case z_zip => k_is); (case c_LAST_MINUTE => k_is); (case c_MOST_STRETCHES => k_is)
