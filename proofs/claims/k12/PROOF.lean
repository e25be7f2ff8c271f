import PyProof.Rows.All
import Wide.All
import OpenK.AllK
import Wide.FinOn
import HandS.ForMost
import HandS.WordsExc
import HandS.ExcInit
import HandS.IsInst
import HandS.Wide
import HandS.TupAny
import HandS.TupMul
import HandS.TryOnly
import HandS.ExcField
import HandS.Style
import HandS.SetFor
import HandS.Small
import HandS.ExcIs
import KE.KExcIs
import KE.DataEq
import KE.Datum
import PyProof.EqKinds
import PySem.Challenge.RW_threecopies_k12_books_judged
set_option Elab.async false
set_option linter.all false
set_option maxRecDepth 100000
set_option maxHeartbeats 4000000
/-! Dy: data with trees in the place of addresses. -/
namespace Dy
open PySem PySem.Spec PyProof.Rows L2

/-- a value as a tree; exo: a caught error at a, its own dict at d; lst, dic: a list, a dict that is never changed any more; ref: the n-th object that may change -/
inductive D where
  | non | bl (b : Bool) | int (i : Int) | str (x : Str) | ty (n : String)
  | tup (xs : List D) | lst (xs : List D) | frz (xs : List D) | dic (ks : List Key) (xs : List D) | ref (n : Nat) | cls (C : Addr)
  | exo (a d : Addr) (ks : List Str) (xs : List D)

/-- l: the objects that may change; b: lists that are being made -/
structure Al where
  l : List Addr
  b : List Addr
abbrev Al.push (φ : Al) (p : Addr) : Al := ⟨φ.l ++ [p], φ.b⟩
/-- a list that is read and never changed -/
def LsF (φ : Al) (H : Hp) (a : Addr) (vs : List V) : Prop := H a = some (.lst vs) ∧ a ∉ φ.l ∧ a ∉ φ.b
/-- a list that nobody can change: the script, a constant of the module -/
def FrF (K : PySem.W.Frag) (H : Hp) (a : Addr) (vs : List V) : Prop := (∃ o, H a = some (.frz o (.lst vs))) ∨ SqL K (fun _ => none) a vs
def DcF (φ : Al) (H : Hp) (a : Addr) (kvs : List (Key × V)) : Prop := H a = some (.dK kvs) ∧ a ∉ φ.l ∧ a ∉ φ.b
mutual
def RD (K : PySem.W.Frag) (φ : Al) (H : Hp) : D → V → Prop
  | .non, v => v = .non
  | .bl b, v => v = .bl b
  | .int i, v => v = .int i
  | .str x, v => v = .str x
  | .ty n, v => v = .ty n
  | .tup xs, v => ∃ a vs, v = .ref a ∧ SqT K H a vs ∧ RDs K φ H xs vs
  | .lst xs, v => ∃ a vs, v = .ref a ∧ LsF φ H a vs ∧ RDs K φ H xs vs
  | .frz xs, v => ∃ a vs, v = .ref a ∧ FrF K H a vs ∧ RDs K φ H xs vs
  | .dic ks xs, v => ∃ a vs, v = .ref a ∧ DcF φ H a (ks.zip vs) ∧ ks.length = vs.length ∧ RDs K φ H xs vs
  | .ref n, v => ∃ a, v = .ref a ∧ φ.l[n]? = some a
  | .cls C, v => v = .ref C
  | .exo a d ks xs, v => ∃ vs, v = .ref a ∧ H d = some (.xd (ks.zip vs)) ∧ ks.length = vs.length ∧ RDs K φ H xs vs
def RDs (K : PySem.W.Frag) (φ : Al) (H : Hp) : List D → List V → Prop
  | [], vs => vs = []
  | x :: xs, vs => ∃ v r, vs = v :: r ∧ RD K φ H x v ∧ RDs K φ H xs r
end
/-- from one state to a later one, but for what is being made -/
structure StepW (φ φ' : Al) (H H' : Hp) : Prop where
  pre : ∃ ψ, φ'.l = φ.l ++ ψ
  bs : ∀ a, a ∈ φ'.b → a ∉ φ.b → a ∉ φ.l → H a = none
  keep : ∀ a o, H a = some o → a ∉ φ.l → a ∉ φ.b → H' a = some o
  new : ∀ a, a ∈ φ'.l → a ∉ φ.l → a ∉ φ.b → H a = none
/-- from one state to a later one -/
structure Step (φ φ' : Al) (H H' : Hp) : Prop where
  pre : ∃ ψ, φ'.l = φ.l ++ ψ
  bs : ∀ a, a ∈ φ'.b → a ∉ φ.b → a ∉ φ.l → H a = none
  sub : ∀ a, a ∈ φ.b → a ∈ φ'.b
  keep : ∀ a o, H a = some o → a ∉ φ.l → H' a = some o
  new : ∀ a, a ∈ φ'.l → a ∉ φ.l → H a = none
def Muts (φ : Al) (H : Hp) : Prop := ∀ a, a ∈ φ.l → Mut (H a)
def MutB (φ : Al) (H : Hp) : Prop := ∀ a, a ∈ φ.b → (∃ xs, H a = some (.lst xs)) ∨ ∃ kvs, H a = some (.dK kvs)
section
variable {K : PySem.W.Frag} {φ φ' φ1 φ2 : Al} {H H' H1 H2 : Hp}
theorem Step.w (s : Step φ φ' H H') : StepW φ φ' H H' := ⟨s.pre, s.bs, fun a o h n _ => s.keep a o h n, fun a m n _ => s.new a m n⟩
theorem Step.refl : Step φ φ H H := ⟨⟨[], by simp⟩, fun _ h n _ => absurd h n, fun _ h => h, fun _ _ h _ => h, fun _ h n => absurd h n⟩
theorem Step.mem (s : Step φ φ' H H') {a : Addr} (h : a ∈ φ.l) : a ∈ φ'.l := by
  obtain ⟨ψ, e⟩ := s.pre
  rw [e]
  exact List.mem_append_left _ h
theorem Step.trans (s : Step φ φ1 H H1) (t : Step φ1 φ2 H1 H2) : Step φ φ2 H H2 := by
  refine ⟨?_, fun a h n nl => ?_, fun a h => t.sub a (s.sub a h), fun a o h n => ?_, fun a h n => ?_⟩
  · obtain ⟨ψ, e⟩ := s.pre
    obtain ⟨χ, e2⟩ := t.pre
    exact ⟨ψ ++ χ, by rw [e2, e]; simp⟩
  · by_cases m : a ∈ φ1.b
    · exact s.bs a m n nl
    · by_cases ml : a ∈ φ1.l
      · exact s.new a ml nl
      · have q := t.bs a h m ml
        cases e : H a with
        | none => rfl
        | some o => rw [s.keep a o e nl] at q; cases q
  · refine t.keep a o (s.keep a o h n) fun m => ?_
    have := s.new a m n
    rw [this] at h; cases h
  · by_cases m : a ∈ φ1.l
    · exact s.new a m n
    · have q := t.new a h m
      cases e : H a with
      | none => rfl
      | some o => rw [s.keep a o e n] at q; cases q
theorem StepW.at (s : StepW φ φ' H H') {n : Nat} {a : Addr} (h : φ.l[n]? = some a) : φ'.l[n]? = some a := by
  obtain ⟨ψ, e⟩ := s.pre
  rw [e]
  exact List.getElem?_append_left (List.getElem?_eq_some_iff.mp h).1 |>.trans h
theorem Step.at (s : Step φ φ' H H') {n : Nat} {a : Addr} (h : φ.l[n]? = some a) : φ'.l[n]? = some a := s.w.at h
theorem StepW.rd (s : StepW φ φ' H H') {a : Addr} {u : HO} (h : Rd H a u) (nm : a ∉ φ.l) (nb : a ∉ φ.b) : Rd H' a u := by
  rcases h with h | ⟨o, h⟩
  · exact .inl (s.keep _ _ h nm nb)
  · exact .inr ⟨o, s.keep _ _ h nm nb⟩
theorem Muts.tup (M : Muts φ H) {a : Addr} {xs : List V} (h : Rd H a (.tup xs)) : a ∉ φ.l := fun m => by
  have q := M a m
  rcases h with h | ⟨o, h⟩ <;> rw [h] at q <;> exact q
theorem MutB.tup (M : MutB φ H) {a : Addr} {xs : List V} (h : Rd H a (.tup xs)) : a ∉ φ.b := fun m => by
  rcases M a m with ⟨ys, q⟩ | ⟨ys, q⟩ <;> rcases h with h | ⟨o, h⟩ <;> rw [h] at q <;> cases q
theorem StepW.sqT (s : StepW φ φ' H H') (M : Muts φ H) (N : MutB φ H) {a : Addr} {xs : List V} (h : SqT K H a xs) : SqT K H' a xs := by
  rcases h with h | h
  · exact .inl (s.rd h (M.tup h) (N.tup h))
  · exact .inr h
theorem sqL_k {a : Addr} {xs : List V} (h : SqL K (fun _ => none) a xs) : SqL K H a xs := by
  rcases h with (h | ⟨_, h⟩) | h
  · cases h
  · cases h
  · exact .inr h
theorem LsF.sq {a : Addr} {xs : List V} (h : LsF φ H a xs) : SqL K H a xs := .inl (.inl h.1)
theorem FrF.sq {a : Addr} {xs : List V} (h : FrF K H a xs) : SqL K H a xs := by
  rcases h with ⟨o, h⟩ | h
  · exact .inl (.inr ⟨o, h⟩)
  · exact sqL_k h
theorem StepW.out (s : StepW φ φ' H H') {a : Addr} {o : HO} (h : H a = some o) (n : a ∉ φ.l) (nb : a ∉ φ.b) : a ∉ φ'.l := fun m => by
  rw [s.new a m n nb] at h; cases h
theorem StepW.outb (s : StepW φ φ' H H') {a : Addr} {o : HO} (h : H a = some o) (nl : a ∉ φ.l) (n : a ∉ φ.b) : a ∉ φ'.b := fun m => by
  rw [s.bs a m n nl] at h; cases h
theorem StepW.lsF (s : StepW φ φ' H H') {a : Addr} {xs : List V} (h : LsF φ H a xs) : LsF φ' H' a xs := ⟨s.keep _ _ h.1 h.2.1 h.2.2, s.out h.1 h.2.1 h.2.2, s.outb h.1 h.2.1 h.2.2⟩
theorem StepW.frF (s : StepW φ φ' H H') (M : Muts φ H) (N : MutB φ H) {a : Addr} {xs : List V} (h : FrF K H a xs) : FrF K H' a xs := by
  rcases h with ⟨o, h⟩ | h
  · have n : a ∉ φ.l := fun m => by
      have q := M a m
      rw [h] at q; exact q
    have nb : a ∉ φ.b := fun m => by
      rcases N a m with ⟨ys, q⟩ | ⟨ys, q⟩ <;> rw [h] at q <;> cases q
    exact .inl ⟨o, s.keep _ _ h n nb⟩
  · exact .inr h
theorem StepW.dcF (s : StepW φ φ' H H') {a : Addr} {kvs : List (Key × V)} (h : DcF φ H a kvs) : DcF φ' H' a kvs := ⟨s.keep _ _ h.1 h.2.1 h.2.2, s.out h.1 h.2.1 h.2.2, s.outb h.1 h.2.1 h.2.2⟩
mutual
theorem RD.monoW (s : StepW φ φ' H H') (M : Muts φ H) (N : MutB φ H) : ∀ (d : D) (v : V), RD K φ H d v → RD K φ' H' d v
  | .non, v, h => h
  | .bl _, v, h => h
  | .int _, v, h => h
  | .str _, v, h => h
  | .ty _, v, h => h
  | .cls _, v, h => h
  | .tup xs, v, h => by
    rw [RD] at h ⊢
    obtain ⟨a, vs, e, h1, h2⟩ := h
    exact ⟨a, vs, e, s.sqT M N h1, RDs.monoW s M N xs vs h2⟩
  | .lst xs, v, h => by
    rw [RD] at h ⊢
    obtain ⟨a, vs, e, h1, h2⟩ := h
    exact ⟨a, vs, e, s.lsF h1, RDs.monoW s M N xs vs h2⟩
  | .frz xs, v, h => by
    rw [RD] at h ⊢
    obtain ⟨a, vs, e, h1, h2⟩ := h
    exact ⟨a, vs, e, s.frF M N h1, RDs.monoW s M N xs vs h2⟩
  | .dic ks xs, v, h => by
    rw [RD] at h ⊢
    obtain ⟨a, vs, e, h1, hl, h2⟩ := h
    exact ⟨a, vs, e, s.dcF h1, hl, RDs.monoW s M N xs vs h2⟩
  | .ref n, v, h => by
    rw [RD] at h ⊢
    obtain ⟨a, e, h1⟩ := h
    exact ⟨a, e, s.at h1⟩
  | .exo a d ks xs, v, h => by
    rw [RD] at h ⊢
    obtain ⟨vs, e, h1, hl, h2⟩ := h
    have n : d ∉ φ.l := fun m => by
      have q := M d m
      rw [h1] at q; exact q
    have nb : d ∉ φ.b := fun m => by
      rcases N d m with ⟨ys, q⟩ | ⟨ys, q⟩ <;> rw [h1] at q <;> cases q
    exact ⟨vs, e, s.keep _ _ h1 n nb, hl, RDs.monoW s M N xs vs h2⟩
theorem RDs.monoW (s : StepW φ φ' H H') (M : Muts φ H) (N : MutB φ H) : ∀ (xs : List D) (vs : List V), RDs K φ H xs vs → RDs K φ' H' xs vs
  | [], vs, h => h
  | x :: xs, vs, h => by
    rw [RDs] at h ⊢
    obtain ⟨v, r, e, h1, h2⟩ := h
    exact ⟨v, r, e, RD.monoW s M N x v h1, RDs.monoW s M N xs r h2⟩
end
/-- all that may change or is being made -/
structure MutA (φ : Al) (H : Hp) : Prop where
  m : Muts φ H
  b : MutB φ H
theorem RD.mono (s : Step φ φ' H H') (M : MutA φ H) (d : D) (v : V) (h : RD K φ H d v) : RD K φ' H' d v := RD.monoW s.w M.m M.b d v h
theorem RDs.mono (s : Step φ φ' H H') (M : MutA φ H) (xs : List D) (vs : List V) (h : RDs K φ H xs vs) : RDs K φ' H' xs vs := RDs.monoW s.w M.m M.b xs vs h
theorem RDs.nil : RDs K φ H [] [] := by rw [RDs]
theorem RDs.cons {x : D} {xs : List D} {v : V} {vs : List V} (h : RD K φ H x v) (r : RDs K φ H xs vs) : RDs K φ H (x :: xs) (v :: vs) := by
  rw [RDs]; exact ⟨v, vs, rfl, h, r⟩
theorem RDs.length : ∀ {xs : List D} {vs : List V}, RDs K φ H xs vs → vs.length = xs.length
  | [], vs, h => by rw [RDs] at h; rw [h]; rfl
  | x :: xs, vs, h => by
    rw [RDs] at h
    obtain ⟨v, r, rfl, _, h2⟩ := h
    rw [List.length_cons, List.length_cons, RDs.length h2]
theorem RDs.append : ∀ {xs ys : List D} {vs ws : List V}, RDs K φ H xs vs → RDs K φ H ys ws → RDs K φ H (xs ++ ys) (vs ++ ws)
  | [], ys, vs, ws, h, q => by rw [RDs] at h; rw [h]; exact q
  | x :: xs, ys, vs, ws, h, q => by
    rw [RDs] at h
    obtain ⟨v, r, rfl, h1, h2⟩ := h
    exact .cons h1 (RDs.append h2 q)
theorem RDs.get : ∀ {xs : List D} {vs : List V} {i : Nat} {x : D}, RDs K φ H xs vs → xs[i]? = some x → ∃ v, vs[i]? = some v ∧ RD K φ H x v
  | [], vs, i, x, h, e => by simp at e
  | y :: xs, vs, 0, x, h, e => by
    rw [RDs] at h
    obtain ⟨v, r, rfl, h1, h2⟩ := h
    simp at e; subst e
    exact ⟨v, rfl, h1⟩
  | y :: xs, vs, i + 1, x, h, e => by
    rw [RDs] at h
    obtain ⟨v, r, rfl, h1, h2⟩ := h
    simp at e
    obtain ⟨u, q1, q2⟩ := RDs.get h2 e
    exact ⟨u, by simpa using q1, q2⟩
theorem RDs.getV : ∀ {xs : List D} {vs : List V} {i : Nat} {v : V}, RDs K φ H xs vs → vs[i]? = some v → ∃ x, xs[i]? = some x ∧ RD K φ H x v
  | [], vs, i, v, h, e => by rw [RDs] at h; rw [h] at e; simp at e
  | y :: xs, vs, 0, v, h, e => by
    rw [RDs] at h
    obtain ⟨u, r, rfl, h1, h2⟩ := h
    simp at e; subst e
    exact ⟨y, rfl, h1⟩
  | y :: xs, vs, i + 1, v, h, e => by
    rw [RDs] at h
    obtain ⟨u, r, rfl, h1, h2⟩ := h
    simp at e
    obtain ⟨x, q1, q2⟩ := RDs.getV h2 e
    exact ⟨x, by simpa using q1, q2⟩
theorem RDs.set : ∀ {xs : List D} {vs : List V} (i : Nat) {x : D} {v : V}, RDs K φ H xs vs → RD K φ H x v → RDs K φ H (xs.set i x) (vs.set i v)
  | [], vs, i, x, v, h, q => by rw [RDs] at h; rw [h]; exact .nil
  | y :: xs, vs, 0, x, v, h, q => by
    rw [RDs] at h
    obtain ⟨u, r, rfl, h1, h2⟩ := h
    exact .cons q h2
  | y :: xs, vs, i + 1, x, v, h, q => by
    rw [RDs] at h
    obtain ⟨u, r, rfl, h1, h2⟩ := h
    exact .cons h1 (RDs.set i h2 q)
theorem RDs.drop : ∀ {xs : List D} {vs : List V} (n : Nat), RDs K φ H xs vs → RDs K φ H (xs.drop n) (vs.drop n)
  | _, _, 0, h => h
  | [], vs, n + 1, h => by rw [RDs] at h; rw [h]; exact .nil
  | y :: xs, vs, n + 1, h => by
    rw [RDs] at h
    obtain ⟨u, r, rfl, h1, h2⟩ := h
    exact RDs.drop n h2
theorem RDs.take : ∀ {xs : List D} {vs : List V} (n : Nat), RDs K φ H xs vs → RDs K φ H (xs.take n) (vs.take n)
  | _, _, 0, h => .nil
  | [], vs, n + 1, h => by rw [RDs] at h; rw [h]; exact .nil
  | y :: xs, vs, n + 1, h => by
    rw [RDs] at h
    obtain ⟨u, r, rfl, h1, h2⟩ := h
    exact .cons h1 (RDs.take n h2)
theorem RDs.eraseIdx : ∀ {xs : List D} {vs : List V} (n : Nat), RDs K φ H xs vs → RDs K φ H (xs.eraseIdx n) (vs.eraseIdx n)
  | [], vs, n, h => by rw [RDs] at h; rw [h]; exact .nil
  | y :: xs, vs, 0, h => by
    rw [RDs] at h
    obtain ⟨u, r, rfl, h1, h2⟩ := h
    exact h2
  | y :: xs, vs, n + 1, h => by
    rw [RDs] at h
    obtain ⟨u, r, rfl, h1, h2⟩ := h
    exact .cons h1 (RDs.eraseIdx n h2)
theorem RDs.ints : ∀ (ns : List Int), RDs K φ H (ns.map D.int) (ns.map V.int)
  | [] => .nil
  | n :: ns => .cons (by rw [RD]) (RDs.ints ns)
theorem RDs.ints_inv : ∀ {ns : List Int} {vs : List V}, RDs K φ H (ns.map D.int) vs → vs = ns.map V.int
  | [], vs, h => by rw [List.map_nil, RDs] at h; exact h
  | n :: ns, vs, h => by
    rw [List.map_cons, RDs] at h
    obtain ⟨u, r, rfl, h1, h2⟩ := h
    rw [RD] at h1
    rw [h1, RDs.ints_inv h2]; rfl
theorem RDs.bls_inv : ∀ {ns : List Bool} {vs : List V}, RDs K φ H (ns.map D.bl) vs → vs = ns.map V.bl
  | [], vs, h => by rw [List.map_nil, RDs] at h; exact h
  | n :: ns, vs, h => by
    rw [List.map_cons, RDs] at h
    obtain ⟨u, r, rfl, h1, h2⟩ := h
    rw [RD] at h1
    rw [h1, RDs.bls_inv h2]; rfl
end

/-! ### the store -/
inductive SO where
  | lst (xs : List D) | dK (kvs : List (Key × D)) | ins (C : Addr) (fs : List (Str × D))
abbrev Store := List SO
def RK {κ : Type} (K : PySem.W.Frag) (φ : Al) (H : Hp) (kvs : List (κ × D)) (ws : List (κ × V)) : Prop := kvs.map (·.1) = ws.map (·.1) ∧ RDs K φ H (kvs.map (·.2)) (ws.map (·.2))
def OR (K : PySem.W.Frag) (φ : Al) (H : Hp) (a : Addr) : SO → Prop
  | .lst xs => ∃ vs, H a = some (.lst vs) ∧ RDs K φ H xs vs
  | .dK kvs => ∃ ws, H a = some (.dK ws) ∧ RK K φ H kvs ws
  | .ins C fs => ∃ dx ws, H a = some (.ins C dx ws) ∧ RK K φ H fs ws
structure SR (K : PySem.W.Frag) (φ : Al) (S : Store) (H : Hp) : Prop where
  nd : φ.l.Nodup
  len : S.length = φ.l.length
  at_ : ∀ (n : Nat) (a : Addr) (o : SO), φ.l[n]? = some a → S[n]? = some o → OR K φ H a o
  mb : MutB φ H
  db : ∀ a, a ∈ φ.b → a ∉ φ.l
section
variable {K : PySem.W.Frag} {φ φ' φ1 φ2 : Al} {H H' H1 H2 : Hp} {S S' : Store}
theorem OR.mut {a : Addr} {o : SO} (h : OR K φ H a o) : Mut (H a) := by
  cases o with
  | lst xs => obtain ⟨_, e, _⟩ := h; rw [e]; trivial
  | dK xs => obtain ⟨_, e, _⟩ := h; rw [e]; trivial
  | ins C xs => obtain ⟨_, _, e, _⟩ := h; rw [e]; trivial
theorem SR.mutl (R : SR K φ S H) : Muts φ H := fun a h => by
  obtain ⟨n, e⟩ := List.getElem?_of_mem h
  have hn : n < S.length := by rw [R.len]; exact (List.getElem?_eq_some_iff.mp e).1
  exact (R.at_ n a S[n] e (List.getElem?_eq_getElem hn)).mut
theorem SR.muts (R : SR K φ S H) : MutA φ H := ⟨R.mutl, R.mb⟩
theorem SR.some_at (R : SR K φ S H) {n : Nat} {o : SO} (e : S[n]? = some o) : ∃ a, φ.l[n]? = some a ∧ OR K φ H a o := by
  have hn : n < φ.l.length := by rw [← R.len]; exact (List.getElem?_eq_some_iff.mp e).1
  exact ⟨φ.l[n], List.getElem?_eq_getElem hn, R.at_ n _ o (List.getElem?_eq_getElem hn) e⟩
theorem RK.monoW {κ : Type} (s : StepW φ φ' H H') (M : MutA φ H) {kvs : List (κ × D)} {ws : List (κ × V)} (h : RK K φ H kvs ws) : RK K φ' H' kvs ws := ⟨h.1, RDs.monoW s M.m M.b _ _ h.2⟩
theorem RK.mono {κ : Type} (s : Step φ φ' H H') (M : MutA φ H) {kvs : List (κ × D)} {ws : List (κ × V)} (h : RK K φ H kvs ws) : RK K φ' H' kvs ws := h.monoW s.w M
theorem OR.moved {a : Addr} {o : SO} (s : StepW φ φ' H H') (M : MutA φ H) (h : OR K φ H a o) (e : H' a = H a) : OR K φ' H' a o := by
  cases o with
  | lst xs => obtain ⟨vs, h1, h2⟩ := h; exact ⟨vs, by rw [e]; exact h1, RDs.monoW s M.m M.b _ _ h2⟩
  | dK xs => obtain ⟨vs, h1, h2⟩ := h; exact ⟨vs, by rw [e]; exact h1, h2.monoW s M⟩
  | ins C xs => obtain ⟨dx, vs, h1, h2⟩ := h; exact ⟨dx, vs, by rw [e]; exact h1, h2.monoW s M⟩
/-- an object of the store is changed -/
theorem SR.step_put (R : SR K φ S H) {n : Nat} {a : Addr} {ho : HO} (e : φ.l[n]? = some a) : Step φ φ H (upd H a ho) :=
  ⟨⟨[], by simp⟩, fun _ h n _ => absurd h n, fun _ h => h, fun b o h nb => by
    have : b ≠ a := fun q => nb (q ▸ List.mem_of_getElem? e)
    rw [upd_ne this]; exact h, fun _ h n => absurd h n⟩
theorem SR.put (R : SR K φ S H) {n : Nat} {a : Addr} {ho : HO} {o : SO} (e : φ.l[n]? = some a) (h : OR K φ (upd H a ho) a o) : SR K φ (S.set n o) (upd H a ho) := by
  have am := List.mem_of_getElem? e
  refine ⟨R.nd, by simpa using R.len, fun m b u hb hu => ?_, fun b hb => ?_, R.db⟩
  · by_cases q : m = n
    · subst q
      rw [e] at hb; cases hb
      have hm : m < S.length := by rw [R.len]; exact (List.getElem?_eq_some_iff.mp e).1
      rw [List.getElem?_set_self hm] at hu; cases hu
      exact h
    · rw [List.getElem?_set_ne (Ne.symm q)] at hu
      have ne : b ≠ a := fun z => by
        subst z
        obtain ⟨h1, e1⟩ := List.getElem?_eq_some_iff.mp hb
        obtain ⟨h2, e2⟩ := List.getElem?_eq_some_iff.mp e
        exact q ((List.getElem_inj R.nd).mp (e1.trans e2.symm))
      exact (R.at_ m b u hb hu).moved (R.step_put (ho := ho) e).w R.muts (upd_ne ne)
  · have ne : b ≠ a := fun z => R.db b hb (z ▸ am)
    rw [upd_ne ne]
    exact R.mb b hb
/-- an object that is not ours comes -/
theorem step_new {p : Addr} {ho : HO} (h : H p = none) : Step φ φ H (upd H p ho) :=
  ⟨⟨[], by simp⟩, fun _ h n _ => absurd h n, fun _ h => h, fun b o e _ => by
    have : b ≠ p := fun q => by rw [q, h] at e; cases e
    rw [upd_ne this]; exact e, fun _ h n => absurd h n⟩
theorem SR.out (R : SR K φ S H) {p : Addr} (h : H p = none) : p ∉ φ.l := fun m => by
  have := R.mutl p m
  rw [h] at this; exact this
theorem SR.outb (R : SR K φ S H) {p : Addr} (h : H p = none) : p ∉ φ.b := fun m => by
  rcases R.mb p m with ⟨xs, q⟩ | ⟨xs, q⟩ <;> rw [h] at q <;> cases q
/-- the store stands where no object of it is touched -/
theorem SR.keep (R : SR K φ S H) (s : Step φ φ H H') (h : ∀ a, a ∈ φ.l → H' a = H a) : SR K φ S H' :=
  ⟨R.nd, R.len, fun n a o ha ho => (R.at_ n a o ha ho).moved s.w R.muts (h a (List.mem_of_getElem? ha)), fun b hb => by
    rcases R.mb b hb with ⟨xs, q⟩ | ⟨xs, q⟩
    · exact .inl ⟨xs, s.keep _ _ q (R.db b hb)⟩
    · exact .inr ⟨xs, s.keep _ _ q (R.db b hb)⟩, R.db⟩
theorem SR.new (R : SR K φ S H) {p : Addr} {ho : HO} (h : H p = none) : SR K φ S (upd H p ho) :=
  R.keep (step_new h) fun a m => upd_ne fun q => R.out h (q ▸ m)
theorem step_push (R : SR K φ S H) {p : Addr} {ho : HO} (h : H p = none) : Step φ (φ.push p) H (upd H p ho) :=
  ⟨⟨[p], rfl⟩, fun _ h n _ => absurd h n, fun _ h => h, (step_new (φ := φ) h).keep, fun a m n => by
    rcases List.mem_append.mp m with m | m
    · exact absurd m n
    · rw [List.mem_singleton.mp m]; exact h⟩
theorem SR.push (R : SR K φ S H) {p : Addr} {ho : HO} {o : SO} (h : H p = none) (q : OR K (φ.push p) (upd H p ho) p o) : SR K (φ.push p) (S ++ [o]) (upd H p ho) := by
  have st := step_push R (ho := ho) h
  refine ⟨?_, by simp [R.len], fun n a u ha hu => ?_, fun b hb => ?_, fun b hb m => ?_⟩
  · show (φ.l ++ [p]).Nodup
    rw [List.nodup_append]
    refine ⟨R.nd, by simp, fun a ha b hb => ?_⟩
    rw [List.mem_singleton.mp hb]
    exact fun z => R.out h (z ▸ ha)
  · have ha' : (φ.l ++ [p])[n]? = some a := ha
    by_cases hn : n < φ.l.length
    · rw [List.getElem?_append_left hn] at ha'
      rw [List.getElem?_append_left (by rw [R.len]; exact hn)] at hu
      have ne : a ≠ p := fun z => R.out h (z ▸ List.mem_of_getElem? ha')
      exact (R.at_ n a u ha' hu).moved st.w R.muts (upd_ne ne)
    · have hn' : n = φ.l.length := by
        have := (List.getElem?_eq_some_iff.mp ha').1
        simp at this; omega
      subst hn'
      rw [List.getElem?_append_right (Nat.le_refl _)] at ha'
      rw [List.getElem?_append_right (by rw [R.len]; exact Nat.le_refl _), R.len] at hu
      simp at ha' hu
      subst ha' hu
      exact q
  · have ne : b ≠ p := fun z => R.outb h (z ▸ hb)
    rw [upd_ne ne]
    exact R.mb b hb
  · rcases List.mem_append.mp m with m | m
    · exact R.db b hb m
    · rw [List.mem_singleton.mp m] at hb
      exact R.outb h hb
end
end Dy
namespace Dy
open PySem PySem.Spec PyProof.Rows L2

/-! ### exceptions, slots -/
/-- an error of the class at C; its fields, if its class has an __init__ of its own -/
structure Exc where
  C : Addr
  fs : Option (List (Str × D))
def ExR (K : PySem.W.Frag) (φ : Al) (H : Hp) (x : Exc) (cls : Value) (d : Option Addr) : Prop :=
  cls = .ref x.C ∧ match x.fs with
    | none => d = none
    | some fs => ∃ dd ws, d = some dd ∧ H dd = some (.xd ws) ∧ RK K φ H fs ws
abbrev Rho := List (Option D)
structure Sl (K : PySem.W.Frag) (φ : Al) (H : Hp) (ρ : Rho) (σ : L2.St) : Prop where
  len : ρ.length = σ.length
  at_ : ∀ (i : Nat) (d : D), ρ[i]? = some (some d) → ∃ v, σ[i]? = some (some v) ∧ RD K φ H d v
section
variable {K : PySem.W.Frag} {φ φ' : Al} {H H' : Hp} {S : Store} {ρ : Rho} {σ : L2.St}
theorem Sl.mono (l : Sl K φ H ρ σ) (s : Step φ φ' H H') (M : MutA φ H) : Sl K φ' H' ρ σ :=
  ⟨l.len, fun i d e => let ⟨v, h1, h2⟩ := l.at_ i d e; ⟨v, h1, RD.mono s M d v h2⟩⟩
theorem Sl.set (l : Sl K φ H ρ σ) {i : Nat} {d : D} {v : V} (h : RD K φ H d v) : Sl K φ H (ρ.set i (some d)) (σ.set i (some v)) := by
  refine ⟨by simpa using l.len, fun j u e => ?_⟩
  by_cases q : j = i
  · subst q
    have hj : j < ρ.length := by
      have := (List.getElem?_eq_some_iff.mp e).1
      simpa using this
    rw [List.getElem?_set_self hj] at e
    cases e
    exact ⟨v, by rw [List.getElem?_set_self (by rw [← l.len]; exact hj)], h⟩
  · rw [List.getElem?_set_ne (Ne.symm q)] at e
    rw [List.getElem?_set_ne (Ne.symm q)]
    exact l.at_ j u e
theorem Sl.unset (l : Sl K φ H ρ σ) {i : Nat} : Sl K φ H (ρ.set i none) (σ.set i none) := by
  refine ⟨by simpa using l.len, fun j u e => ?_⟩
  by_cases q : j = i
  · subst q
    have hj : j < ρ.length := by
      have := (List.getElem?_eq_some_iff.mp e).1
      simpa using this
    rw [List.getElem?_set_self hj] at e
    cases e
  · rw [List.getElem?_set_ne (Ne.symm q)] at e
    rw [List.getElem?_set_ne (Ne.symm q)]
    exact l.at_ j u e
end

/-! ### expressions -/
/-- contexts that differ in what a derivation does not see -/
structure Fam where
  ι : Type
  X : ι → Cx
  K : PySem.W.Frag
  hK : ∀ i, (X i).K = K
def Fam.one (X : Cx) : Fam := ⟨Unit, fun _ => X, X.K, fun _ => rfl⟩
abbrev QD := D → Store → Prop
abbrev XQ := Exc → Store → Prop
abbrev DTE := Rho → Store → QD → XQ → Prop
abbrev DTT := Rho → Store → (Bool → Store → Prop) → XQ → Prop
abbrev DTA := Rho → Store → (List D → Store → Prop) → XQ → Prop
/-- where an evaluation stands -/
structure Ok (K : PySem.W.Frag) (W : WX) (σ : L2.St) (ρ : Rho) (φ : Al) (S : Store) (H : Hp) (E : XQ) : Prop where
  sr : SR K φ S H
  sl : Sl K φ H ρ σ
  ex : ∀ φ' H' S' x cls d, Step φ φ' H H' → SR K φ' S' H' → ExR K φ' H' x cls d → E x S' → W cls d σ H'
theorem Ok.mono {K : PySem.W.Frag} {W : WX} {σ : L2.St} {ρ : Rho} {φ φ' : Al} {S S' : Store} {H H' : Hp} {E : XQ} (o : Ok K W σ ρ φ S H E) (s : Step φ φ' H H') (r : SR K φ' S' H') : Ok K W σ ρ φ' S' H' E :=
  ⟨r, o.sl.mono s o.sr.muts, fun _ _ _ _ _ _ t r' x e => o.ex _ _ _ _ _ _ (s.trans t) r' x e⟩
/-- what an evaluation's end is worth -/
def EndV (K : PySem.W.Frag) (φ : Al) (H : Hp) (Q' : QD) (Q : VK) : Prop :=
  ∀ φ' H' S' d v, Step φ φ' H H' → SR K φ' S' H' → RD K φ' H' d v → Q' d S' → Q v H'
def EndT (K : PySem.W.Frag) (φ : Al) (H : Hp) (Q' : Bool → Store → Prop) (Q : Bool → Hp → Prop) : Prop :=
  ∀ φ' H' S' b, Step φ φ' H H' → SR K φ' S' H' → Q' b S' → Q b H'
def EndA (K : PySem.W.Frag) (φ : Al) (H : Hp) (Q' : List D → Store → Prop) (Q : List V → Hp → Prop) : Prop :=
  ∀ φ' H' S' ds vs, Step φ φ' H H' → SR K φ' S' H' → RDs K φ' H' ds vs → Q' ds S' → Q vs H'
def DE (F : Fam) (W : WX) (e : Expr) (t' : DTE) : Prop :=
  ∃ t : TE, (∀ i, PE (F.X i) e t) ∧ ∀ σ ρ φ S H E Q' Q, Ok F.K W σ ρ φ S H E → EndV F.K φ H Q' Q → t' ρ S Q' E → t σ H Q
def DT (F : Fam) (W : WX) (e : Expr) (t' : DTT) : Prop :=
  ∃ t : TT, (∀ i, PT (F.X i) e t) ∧ ∀ σ ρ φ S H E Q' Q, Ok F.K W σ ρ φ S H E → EndT F.K φ H Q' Q → t' ρ S Q' E → t σ H Q
def DW (F : Fam) (W : WX) (e : Expr) (t' : DTT) : Prop :=
  ∃ t : TT, (∀ i, PW (F.X i) e t) ∧ ∀ σ ρ φ S H E Q' Q, Ok F.K W σ ρ φ S H E → EndT F.K φ H Q' Q → t' ρ S Q' E → t σ H Q
def DA (F : Fam) (W : WX) (es : List Expr) (t' : DTA) : Prop :=
  ∃ t : TA, (∀ i, PA (F.X i) es t) ∧ ∀ σ ρ φ S H E Q' Q, Ok F.K W σ ρ φ S H E → EndA F.K φ H Q' Q → t' ρ S Q' E → t σ H Q
/-- inside an evaluation: the end, seen from a later state -/
theorem EndV.mono {K : PySem.W.Frag} {φ φ' : Al} {H H' : Hp} {Q' : QD} {Q : VK} (q : EndV K φ H Q' Q) (s : Step φ φ' H H') : EndV K φ' H' Q' Q :=
  fun _ _ _ _ _ t r rd h => q _ _ _ _ _ (s.trans t) r rd h
theorem EndT.mono {K : PySem.W.Frag} {φ φ' : Al} {H H' : Hp} {Q' : Bool → Store → Prop} {Q : Bool → Hp → Prop} (q : EndT K φ H Q' Q) (s : Step φ φ' H H') : EndT K φ' H' Q' Q :=
  fun _ _ _ _ t r h => q _ _ _ _ (s.trans t) r h
theorem EndA.mono {K : PySem.W.Frag} {φ φ' : Al} {H H' : Hp} {Q' : List D → Store → Prop} {Q : List V → Hp → Prop} (q : EndA K φ H Q' Q) (s : Step φ φ' H H') : EndA K φ' H' Q' Q :=
  fun _ _ _ _ _ t r rd h => q _ _ _ _ _ (s.trans t) r rd h
section
variable {F : Fam} {W : WX} {a b c e : Expr} {es rest : List Expr} {pos : Pos} {ta tb tc te : DTE} {uA uB uC : DTT} {t : DTA}
def dVar (i : Nat) : DTE := fun ρ S Q _ => ∃ d, ρ[i]? = some (some d) ∧ Q d S
def dC (d : D) : DTE := fun _ S Q _ => Q d S
/-- a constant that says nothing of the heap -/
def Flat : D → V → Prop
  | .non, v => v = .non
  | .bl b, v => v = .bl b
  | .int i, v => v = .int i
  | .str x, v => v = .str x
  | .ty n, v => v = .ty n
  | .cls C, v => v = .ref C
  | _, _ => False
theorem Flat.rd {K : PySem.W.Frag} {φ : Al} {H : Hp} {d : D} {v : V} (h : Flat d v) : RD K φ H d v := by
  cases d <;> first | exact h.elim | (rw [RD]; exact h)
theorem de_of_c {d : D} {v : V} (h : ∀ i, PE (F.X i) e (tC v)) (f : Flat d v) : DE F W e (dC d) :=
  ⟨tC v, h, fun σ ρ φ S H E Q' Q o q h => q φ H S d v .refl o.sr f.rd h⟩
theorem de_var (i : Nat) {x : Str} (hN : ∀ j, (F.X j).N[i]? = some x := by intro _; rfl) (hv : ∀ j, Vis (F.X j).env.scope x := by intro _; first | exact Or.inl rfl | exact Or.inr (Or.inl rfl) | exact Or.inr (Or.inr rfl)) (hd : (x == ("__debug__" : Str)) = false := by decide)
    (hcd : (x == ("__classdict__" : Str)) = false := by decide) : DE F W (.Name x pos) (dVar i) :=
  ⟨tVar i, fun j => pe_var (hN j) (hv j) hd hcd, fun σ ρ φ S H E Q' Q o q h => by
    obtain ⟨d, e, h⟩ := h
    obtain ⟨v, e2, r⟩ := o.sl.at_ i d e
    exact ⟨v, e2, q φ H S d v .refl o.sr r h⟩⟩
theorem de_int {i : Int} {j} : DE F W (.Constant (.int i) j pos) (dC (.int i)) := de_of_c (fun _ => pe_int) rfl
theorem de_bl {i : Bool} {j} : DE F W (.Constant (.bool i) j pos) (dC (.bl i)) := de_of_c (fun _ => pe_bl) rfl
theorem de_non {j} : DE F W (.Constant .none j pos) (dC .non) := de_of_c (fun _ => pe_non) rfl
theorem de_str {x : Str} {j} : DE F W (.Constant (.str x) j pos) (dC (.str x)) := de_of_c (fun _ => pe_str) rfl
/-- a module's own name: a class, a def, a plain constant -/
theorem de_glob {x : Str} {d : D} {v : V} {u : Value} (hg : ∀ i, Gl (F.X i) x) (hm : ∀ i, (F.X i).mg x = some u) (r : RelV v u) (f : Flat d v) (hd : (x == ("__debug__" : Str)) = false := by decide) : DE F W (.Name x pos) (dC d) := de_of_c (fun i => pe_glob (hg i) (hm i) r hd) f
theorem de_bltn {x : Str} {d : D} {v : V} {u : Value} (hg : ∀ i, Gl (F.X i) x) (hm : ∀ i, (F.X i).mg x = none) (hv : bootBuiltins x = some u) (r : RelV v u) (f : Flat d v) (hn : x ≠ "__name__" := by decide) (hd : (x == ("__debug__" : Str)) = false := by decide) :
    DE F W (.Name x pos) (dC d) := de_of_c (fun i => pe_bltn (hg i) (hm i) hv r hn hd) f
/-- a constant tuple (or list) of the module -/
theorem de_globT {x : Str} {a : Addr} {xs : List D} (hg : ∀ i, Gl (F.X i) x) (hm : ∀ i, (F.X i).mg x = some (.ref a)) (h : ∀ φ H, RD F.K φ H (.tup xs) (.ref a)) (hd : (x == ("__debug__" : Str)) = false := by decide) : DE F W (.Name x pos) (dC (.tup xs)) :=
  ⟨tC (.ref a), fun i => pe_glob (hg i) (hm i) rfl hd, fun σ ρ φ S H E Q' Q o q k => q φ H S _ _ .refl o.sr (h φ H) k⟩

/-! ### arguments, two in a row -/
def dNil : DTA := fun _ S Q _ => Q [] S
def dCons (ta : DTE) (t : DTA) : DTA := fun ρ S Q E => ta ρ S (fun d S1 => t ρ S1 (fun ds S2 => Q (d :: ds) S2) E) E
theorem da_nil : DA F W [] dNil := ⟨tNil, fun _ => pa_nil, fun σ ρ φ S H E Q' Q o q h => q φ H S [] [] .refl o.sr .nil h⟩
theorem da_cons (ha : DE F W e ta) (hr : DA F W es t) (hs : ∀ i, starEach (e :: es) (F.X i).env = (false, eval e (F.X i).env) :: starEach es (F.X i).env := by intro _; rfl) : DA F W (e :: es) (dCons ta t) := by
  obtain ⟨t1, p1, k1⟩ := ha
  obtain ⟨t2, p2, k2⟩ := hr
  refine ⟨tCons t1 t2, fun i => pa_cons (p1 i) (p2 i) (hs i), fun σ ρ φ S H E Q' Q o q h => ?_⟩
  refine k1 σ ρ φ S H E _ _ o (fun φ1 H1 S1 d v s1 r1 rd h1 => ?_) h
  refine k2 σ ρ φ1 S1 H1 E _ _ (o.mono s1 r1) (fun φ2 H2 S2 ds vs s2 r2 rds h2 => ?_) h1
  exact q φ2 H2 S2 _ _ (s1.trans s2) r2 (.cons (RD.mono s2 r1.muts _ _ rd) rds) h2
/-- the common way of a two-place operation -/
theorem de_two {r : R2} {r' : D → D → Store → QD → Prop} {f : TE → TE → TE} (hf : ∀ t1 t2, f t1 t2 = tOp r t1 t2) (ha : DE F W a ta) (hb : DE F W b tb) (hp : ∀ i t1 t2, PE (F.X i) a t1 → PE (F.X i) b t2 → PE (F.X i) e (f t1 t2))
    (hr : ∀ φ S H Q' Q d1 d2 v1 v2, SR F.K φ S H → RD F.K φ H d1 v1 → RD F.K φ H d2 v2 → EndV F.K φ H Q' Q → r' d1 d2 S Q' → r v1 v2 H Q) :
    DE F W e (fun ρ S Q E => ta ρ S (fun d1 S1 => tb ρ S1 (fun d2 S2 => r' d1 d2 S2 Q) E) E) := by
  obtain ⟨t1, p1, k1⟩ := ha
  obtain ⟨t2, p2, k2⟩ := hb
  refine ⟨f t1 t2, fun i => hp i t1 t2 (p1 i) (p2 i), fun σ ρ φ S H E Q' Q o q h => ?_⟩
  rw [hf]
  refine k1 σ ρ φ S H E _ _ o (fun φ1 H1 S1 d v s1 r1 rd h1 => ?_) h
  refine k2 σ ρ φ1 S1 H1 E _ _ (o.mono s1 r1) (fun φ2 H2 S2 d2 v2 s2 r2 rd2 h2 => ?_) h1
  exact hr φ2 S2 H2 _ _ d d2 v v2 r2 (RD.mono s2 r1.muts _ _ rd) rd2 (q.mono (s1.trans s2)) h2
abbrev D2 := D → D → Store → QD → Prop
def dOp (r : D2) (ta tb : DTE) : DTE := fun ρ S Q E => ta ρ S (fun d1 S1 => tb ρ S1 (fun d2 S2 => r d1 d2 S2 Q) E) E
/-- an operation on trees and its rule by values -/
def Lk (K : PySem.W.Frag) (r' : D2) (r : R2) : Prop :=
  ∀ φ S H Q' Q d1 d2 v1 v2, SR K φ S H → RD K φ H d1 v1 → RD K φ H d2 v2 → EndV K φ H Q' Q → r' d1 d2 S Q' → r v1 v2 H Q
theorem de_op {op : Operator} {r : R2} {r' : D2} (ho : ∀ i, OpR (F.X i) (binaryOp op) r) (l : Lk F.K r' r) (ha : DE F W a ta) (hb : DE F W b tb) : DE F W (.BinOp a op b pos) (dOp r' ta tb) :=
  de_two (f := fun t1 t2 => tOp r t1 t2) (fun _ _ => rfl) ha hb (fun i _ _ p1 p2 => pe_op (ho i) p1 p2) l
theorem de_cmp {op : CmpOp} {r : R2} {r' : D2} (ho : ∀ i, OpR (F.X i) (compareOp op) r) (l : Lk F.K r' r) (ha : DE F W a ta) (hb : DE F W b tb) (hm : behindInMarks op b = false) : DE F W (.Compare a [op] [b] pos) (dOp r' ta tb) :=
  de_two (f := fun t1 t2 => tOp r t1 t2) (fun _ _ => rfl) ha hb (fun i _ _ p1 p2 => pe_cmpR (ho i) p1 p2 hm) l
theorem de_ix {r : R2} {r' : D2} (ho : ∀ i, IxR (F.X i) r) (l : Lk F.K r' r) (ha : DE F W a ta) (hb : DE F W b tb) (hs : PlainIx b := by exact fun _ _ => rfl) : DE F W (.Subscript a b pos) (dOp r' ta tb) :=
  de_two (f := fun t1 t2 => tOp r t1 t2) (fun _ _ => rfl) ha hb (fun i _ _ p1 p2 => pe_ix (ho i) p1 p2 hs) l
def dUn (r : D → Store → QD → Prop) (ta : DTE) : DTE := fun ρ S Q E => ta ρ S (fun d S1 => r d S1 Q) E
theorem de_un {op : UnaryOp} {r : V → Hp → VK → Prop} {r' : D → Store → QD → Prop} (ho : ∀ i, UnR (F.X i) (unaryOp op) r) (l : ∀ φ S H Q' Q d v, SR F.K φ S H → RD F.K φ H d v → EndV F.K φ H Q' Q → r' d S Q' → r v H Q) (ha : DE F W a ta) : DE F W (.UnaryOp op a pos) (dUn r' ta) := by
  obtain ⟨t1, p1, k1⟩ := ha
  refine ⟨_, fun i => pe_un (ho i) (p1 i), fun σ ρ φ S H E Q' Q o q h => ?_⟩
  refine k1 σ ρ φ S H E _ _ o (fun φ1 H1 S1 d v s1 r1 rd h1 => ?_) h
  exact l φ1 S1 H1 _ _ d v r1 rd (q.mono s1) h1

/-! ### tests -/
/-- an expression that gives True or False, as a test -/
def dTest (te : DTE) : DTT := fun ρ S Q E => te ρ S (fun d S1 => ∃ k, d = .bl k ∧ Q k S1) E
theorem dt_val (h : DE F W e te) (he : ∀ i whole, isTrue e (F.X i).env whole = (do let v ← whole; standAt e.pos; holding [v] (truthy v)) := by intro _ _; rfl) : DT F W e (dTest te) := by
  obtain ⟨t1, p1, k1⟩ := h
  refine ⟨tB t1, fun i => pt_val (p1 i) (he i), fun σ ρ φ S H E Q' Q o q h => ?_⟩
  refine k1 σ ρ φ S H E _ _ o (fun φ1 H1 S1 d v s1 r1 rd h1 => ?_) h
  obtain ⟨k, rfl, h2⟩ := h1
  rw [RD] at rd
  exact ⟨k, rd, q φ1 H1 S1 k s1 r1 h2⟩
theorem dt_cmp {op : CmpOp} {r : R2} {r' : D2} (ho : ∀ i, OpR (F.X i) (compareOp op) r) (l : Lk F.K r' r) (ha : DE F W a ta) (hb : DE F W b tb) (hm : behindInMarks op b = false) : DT F W (.Compare a [op] [b] pos) (dTest (dOp r' ta tb)) := by
  obtain ⟨t1, p1, k1⟩ := ha
  obtain ⟨t2, p2, k2⟩ := hb
  refine ⟨_, fun i => pt_cmpR (ho i) (p1 i) (p2 i) hm, fun σ ρ φ S H E Q' Q o q h => ?_⟩
  refine k1 σ ρ φ S H E _ _ o (fun φ1 H1 S1 d v s1 r1 rd h1 => ?_) h
  refine k2 σ ρ φ1 S1 H1 E _ _ (o.mono s1 r1) (fun φ2 H2 S2 d2 v2 s2 r2 rd2 h2 => ?_) h1
  refine l φ2 S2 H2 _ _ d d2 v v2 r2 (RD.mono s2 r1.muts _ _ rd) rd2 (fun φ3 H3 S3 d3 v3 s3 r3 rd3 h3 => ?_) h2
  obtain ⟨k, rfl, h4⟩ := h3
  rw [RD] at rd3
  exact ⟨k, rd3, q φ3 H3 S3 k ((s1.trans s2).trans s3) r3 h4⟩
def dAnd (t u : DTT) : DTT := fun ρ S Q E => t ρ S (fun c S1 => if c = true then u ρ S1 Q E else Q false S1) E
def dOr (t u : DTT) : DTT := fun ρ S Q E => t ρ S (fun c S1 => if c = true then Q true S1 else u ρ S1 Q E) E
def dNot (t : DTT) : DTT := fun ρ S Q E => t ρ S (fun c S1 => Q (!c) S1) E
theorem dw_and1 (h : DT F W a uA) : DW F W (.BoolOp .And [a] pos) uA := let ⟨t, p, k⟩ := h; ⟨t, fun i => pw_and1 (p i), k⟩
theorem dw_or1 (h : DT F W a uA) : DW F W (.BoolOp .Or [a] pos) uA := let ⟨t, p, k⟩ := h; ⟨t, fun i => pw_or1 (p i), k⟩
theorem dw_and (ha : DT F W a uA) (hb : DW F W (.BoolOp .And (b :: rest) pos) uB) : DW F W (.BoolOp .And (a :: b :: rest) pos) (dAnd uA uB) := by
  obtain ⟨t1, p1, k1⟩ := ha
  obtain ⟨t2, p2, k2⟩ := hb
  refine ⟨_, fun i => pw_and (p1 i) (p2 i), fun σ ρ φ S H E Q' Q o q h => ?_⟩
  refine k1 σ ρ φ S H E _ _ o (fun φ1 H1 S1 k s1 r1 h1 => ?_) h
  cases k with
  | false => rw [if_neg Bool.false_ne_true] at h1 ⊢; exact q φ1 H1 S1 false s1 r1 h1
  | true => rw [if_pos rfl] at h1 ⊢; exact k2 σ ρ φ1 S1 H1 E _ _ (o.mono s1 r1) (q.mono s1) h1
theorem dw_or (ha : DT F W a uA) (hb : DW F W (.BoolOp .Or (b :: rest) pos) uB) : DW F W (.BoolOp .Or (a :: b :: rest) pos) (dOr uA uB) := by
  obtain ⟨t1, p1, k1⟩ := ha
  obtain ⟨t2, p2, k2⟩ := hb
  refine ⟨_, fun i => pw_or (p1 i) (p2 i), fun σ ρ φ S H E Q' Q o q h => ?_⟩
  refine k1 σ ρ φ S H E _ _ o (fun φ1 H1 S1 k s1 r1 h1 => ?_) h
  cases k with
  | false => rw [if_neg Bool.false_ne_true] at h1 ⊢; exact k2 σ ρ φ1 S1 H1 E _ _ (o.mono s1 r1) (q.mono s1) h1
  | true => rw [if_pos rfl] at h1 ⊢; exact q φ1 H1 S1 true s1 r1 h1
theorem DW.dt (h : DW F W a uA) : DT F W a uA := let ⟨t, p, k⟩ := h; ⟨t, fun i => (p i).pt, k⟩
theorem dt_not (ha : DT F W a uA) : DT F W (.UnaryOp .Not a pos) (dNot uA) := by
  obtain ⟨t1, p1, k1⟩ := ha
  refine ⟨_, fun i => pt_not (p1 i), fun σ ρ φ S H E Q' Q o q h => ?_⟩
  exact k1 σ ρ φ S H E _ _ o (fun φ1 H1 S1 k s1 r1 h1 => q φ1 H1 S1 _ s1 r1 h1) h
/-- and, or, not as values -/
def dAndV (ta tb : DTE) : DTE := fun ρ S Q E => ta ρ S (fun d S1 => ∃ c, d = .bl c ∧ if c = true then tb ρ S1 Q E else Q (.bl false) S1) E
def dOrV (ta tb : DTE) : DTE := fun ρ S Q E => ta ρ S (fun d S1 => ∃ c, d = .bl c ∧ if c = true then Q (.bl true) S1 else tb ρ S1 Q E) E
def dNotV (ta : DTE) : DTE := fun ρ S Q E => ta ρ S (fun d S1 => ∃ c, d = .bl c ∧ Q (.bl (!c)) S1) E
theorem rd_bl {K : PySem.W.Frag} {φ : Al} {H : Hp} {b : Bool} : RD K φ H (.bl b) (.bl b) := by rw [RD]
theorem rd_int {K : PySem.W.Frag} {φ : Al} {H : Hp} {b : Int} : RD K φ H (.int b) (.int b) := by rw [RD]
theorem rd_str {K : PySem.W.Frag} {φ : Al} {H : Hp} {b : Str} : RD K φ H (.str b) (.str b) := by rw [RD]
theorem rd_non {K : PySem.W.Frag} {φ : Al} {H : Hp} : RD K φ H .non .non := by rw [RD]
theorem de_one {op} (h : DE F W a ta) : DE F W (.BoolOp op [a] pos) ta := let ⟨t, p, k⟩ := h; ⟨t, fun i => pe_one (p i), k⟩
theorem de_and (ha : DE F W a ta) (hb : DE F W (.BoolOp .And (b :: rest) pos) tb) : DE F W (.BoolOp .And (a :: b :: rest) pos) (dAndV ta tb) := by
  obtain ⟨t1, p1, k1⟩ := ha
  obtain ⟨t2, p2, k2⟩ := hb
  refine ⟨_, fun i => pe_and (p1 i) (p2 i), fun σ ρ φ S H E Q' Q o q h => ?_⟩
  refine k1 σ ρ φ S H E _ _ o (fun φ1 H1 S1 d v s1 r1 rd h1 => ?_) h
  obtain ⟨k, rfl, h1⟩ := h1
  rw [RD] at rd
  refine ⟨k, rd, ?_⟩
  cases k with
  | false => rw [if_neg Bool.false_ne_true] at h1 ⊢; exact q φ1 H1 S1 _ _ s1 r1 rd_bl h1
  | true => rw [if_pos rfl] at h1 ⊢; exact k2 σ ρ φ1 S1 H1 E _ _ (o.mono s1 r1) (q.mono s1) h1
theorem de_or (ha : DE F W a ta) (hb : DE F W (.BoolOp .Or (b :: rest) pos) tb) : DE F W (.BoolOp .Or (a :: b :: rest) pos) (dOrV ta tb) := by
  obtain ⟨t1, p1, k1⟩ := ha
  obtain ⟨t2, p2, k2⟩ := hb
  refine ⟨_, fun i => pe_or (p1 i) (p2 i), fun σ ρ φ S H E Q' Q o q h => ?_⟩
  refine k1 σ ρ φ S H E _ _ o (fun φ1 H1 S1 d v s1 r1 rd h1 => ?_) h
  obtain ⟨k, rfl, h1⟩ := h1
  rw [RD] at rd
  refine ⟨k, rd, ?_⟩
  cases k with
  | false => rw [if_neg Bool.false_ne_true] at h1 ⊢; exact k2 σ ρ φ1 S1 H1 E _ _ (o.mono s1 r1) (q.mono s1) h1
  | true => rw [if_pos rfl] at h1 ⊢; exact q φ1 H1 S1 _ _ s1 r1 rd_bl h1
theorem de_not (ha : DE F W a ta) : DE F W (.UnaryOp .Not a pos) (dNotV ta) := by
  obtain ⟨t1, p1, k1⟩ := ha
  refine ⟨_, fun i => pe_not (p1 i), fun σ ρ φ S H E Q' Q o q h => ?_⟩
  refine k1 σ ρ φ S H E _ _ o (fun φ1 H1 S1 d v s1 r1 rd h1 => ?_) h
  obtain ⟨k, rfl, h1⟩ := h1
  rw [RD] at rd
  exact ⟨k, rd, q φ1 H1 S1 _ _ s1 r1 rd_bl h1⟩
def dIf (t : DTT) (ta tb : DTE) : DTE := fun ρ S Q E => t ρ S (fun c S1 => if c = true then ta ρ S1 Q E else tb ρ S1 Q E) E
theorem de_ifExp (hc : DT F W c uC) (ha : DE F W a ta) (hb : DE F W b tb) : DE F W (.IfExp c a b pos) (dIf uC ta tb) := by
  obtain ⟨t0, p0, k0⟩ := hc
  obtain ⟨t1, p1, k1⟩ := ha
  obtain ⟨t2, p2, k2⟩ := hb
  refine ⟨_, fun i => pe_ifExp (p0 i) (p1 i) (p2 i), fun σ ρ φ S H E Q' Q o q h => ?_⟩
  refine k0 σ ρ φ S H E _ _ o (fun φ1 H1 S1 k s1 r1 h1 => ?_) h
  cases k with
  | false => rw [if_neg Bool.false_ne_true] at h1 ⊢; exact k2 σ ρ φ1 S1 H1 E _ _ (o.mono s1 r1) (q.mono s1) h1
  | true => rw [if_pos rfl] at h1 ⊢; exact k1 σ ρ φ1 S1 H1 E _ _ (o.mono s1 r1) (q.mono s1) h1

/-! ### tuples and lists made -/
def dTup (t : DTA) : DTE := fun ρ S Q E => t ρ S (fun ds S1 => ds.length ≤ sizeLine ∧ Q (.tup ds) S1) E
/-- a list that is never changed -/
def dLst (t : DTA) : DTE := fun ρ S Q E => t ρ S (fun ds S1 => ds.length ≤ sizeLine ∧ Q (.lst ds) S1) E
/-- a list that may be changed -/
def dNew (t : DTA) : DTE := fun ρ S Q E => t ρ S (fun ds S1 => ds.length ≤ sizeLine ∧ Q (.ref S1.length) (S1 ++ [.lst ds])) E
theorem rd_tup_new {K : PySem.W.Frag} {φ : Al} {H : Hp} {S : Store} {p : Addr} {ds : List D} {vs : List V} (r : SR K φ S H) (hp : H p = none) (rd : RDs K φ H ds vs) : RD K φ (upd H p (.tup vs)) (.tup ds) (.ref p) := by
  rw [RD]
  exact ⟨p, vs, rfl, .inl (.inl upd_same), RDs.mono (step_new hp) r.muts _ _ rd⟩
theorem rd_lst_new {K : PySem.W.Frag} {φ : Al} {H : Hp} {S : Store} {p : Addr} {ds : List D} {vs : List V} (r : SR K φ S H) (hp : H p = none) (rd : RDs K φ H ds vs) : RD K φ (upd H p (.lst vs)) (.lst ds) (.ref p) := by
  rw [RD]
  exact ⟨p, vs, rfl, ⟨upd_same, r.out hp, r.outb hp⟩, RDs.mono (step_new hp) r.muts _ _ rd⟩
/-- the ends: a new tuple, a new frozen list, a new list of the store -/
theorem EndV.tup {K : PySem.W.Frag} {φ : Al} {H : Hp} {S : Store} {Q' : QD} {Q : VK} (q : EndV K φ H Q' Q) (r : SR K φ S H) {p : Addr} {ds : List D} {vs : List V} (hp : H p = none) (rd : RDs K φ H ds vs) (h : Q' (.tup ds) S) : Q (.ref p) (upd H p (.tup vs)) :=
  q φ _ S _ _ (step_new hp) (r.new hp) (rd_tup_new r hp rd) h
theorem EndV.lst {K : PySem.W.Frag} {φ : Al} {H : Hp} {S : Store} {Q' : QD} {Q : VK} (q : EndV K φ H Q' Q) (r : SR K φ S H) {p : Addr} {ds : List D} {vs : List V} (hp : H p = none) (rd : RDs K φ H ds vs) (h : Q' (.lst ds) S) : Q (.ref p) (upd H p (.lst vs)) :=
  q φ _ S _ _ (step_new hp) (r.new hp) (rd_lst_new r hp rd) h
theorem EndV.newL {K : PySem.W.Frag} {φ : Al} {H : Hp} {S : Store} {Q' : QD} {Q : VK} (q : EndV K φ H Q' Q) (r : SR K φ S H) {p : Addr} {ds : List D} {vs : List V} (hp : H p = none) (rd : RDs K φ H ds vs) (h : Q' (.ref S.length) (S ++ [.lst ds])) : Q (.ref p) (upd H p (.lst vs)) :=
  q (φ.push p) _ _ _ _ (step_push r hp) (r.push (o := .lst ds) hp ⟨vs, upd_same, RDs.mono (step_push r hp) r.muts _ _ rd⟩) (by rw [RD]; exact ⟨p, rfl, by rw [r.len]; simp⟩) h
theorem de_tup {x1} (h : DA F W es t) : DE F W (.Tuple es x1 pos) (dTup t) := by
  obtain ⟨t1, p1, k1⟩ := h
  refine ⟨_, fun i => pe_tup (p1 i), fun σ ρ φ S H E Q' Q o q h => ?_⟩
  refine k1 σ ρ φ S H E _ _ o (fun φ1 H1 S1 ds vs s1 r1 rd h1 => ?_) h
  exact ⟨by rw [rd.length]; exact h1.1, fun p hp => (q.mono s1).tup r1 hp rd h1.2⟩
theorem de_lst (h : DA F W es t) : DE F W (.List es pos) (dLst t) := by
  obtain ⟨t1, p1, k1⟩ := h
  refine ⟨_, fun i => pe_lst (p1 i), fun σ ρ φ S H E Q' Q o q h => ?_⟩
  refine k1 σ ρ φ S H E _ _ o (fun φ1 H1 S1 ds vs s1 r1 rd h1 => ?_) h
  exact ⟨by rw [rd.length]; exact h1.1, fun p hp => (q.mono s1).lst r1 hp rd h1.2⟩
theorem de_new (h : DA F W es t) : DE F W (.List es pos) (dNew t) := by
  obtain ⟨t1, p1, k1⟩ := h
  refine ⟨_, fun i => pe_lst (p1 i), fun σ ρ φ S H E Q' Q o q h => ?_⟩
  refine k1 σ ρ φ S H E _ _ o (fun φ1 H1 S1 ds vs s1 r1 rd h1 => ?_) h
  exact ⟨by rw [rd.length]; exact h1.1, fun p hp => (q.mono s1).newL r1 hp rd h1.2⟩
end
end Dy
namespace Dy
open PySem PySem.Spec PyProof.Rows L2

/-! ### what may be read as a list, a tuple -/
def lsM (S : Store) : D → Option (List D)
  | .lst xs => some xs
  | .ref n => match S[n]? with
    | some (.lst xs) => some xs
    | _ => none
  | _ => none
def lsOf (S : Store) : D → Option (List D)
  | .lst xs => some xs
  | .frz xs => some xs
  | .ref n => match S[n]? with
    | some (.lst xs) => some xs
    | _ => none
  | _ => none
def tpOf : D → Option (List D)
  | .tup xs => some xs
  | _ => none
/-- a list or a tuple -/
def sqOf (S : Store) : D → Option (List D)
  | .tup xs => some xs
  | d => lsOf S d
section
variable {K : PySem.W.Frag} {φ : Al} {H : Hp} {S : Store} {d : D} {v : V} {xs : List D}
theorem rd_tup (h : RD K φ H (.tup xs) v) : ∃ a vs, v = .ref a ∧ SqT K H a vs ∧ RDs K φ H xs vs := by rw [RD] at h; exact h
theorem rd_ref {n : Nat} (h : RD K φ H (.ref n) v) : ∃ a, v = .ref a ∧ φ.l[n]? = some a := by rw [RD] at h; exact h
theorem SR.lst (r : SR K φ S H) {n : Nat} (h : RD K φ H (.ref n) v) (e : S[n]? = some (.lst xs)) : ∃ a vs, v = .ref a ∧ φ.l[n]? = some a ∧ H a = some (.lst vs) ∧ RDs K φ H xs vs := by
  obtain ⟨a, rfl, ha⟩ := rd_ref h
  obtain ⟨vs, h1, h2⟩ := r.at_ n a _ ha e
  exact ⟨a, vs, rfl, ha, h1, h2⟩
theorem ls_m (r : SR K φ S H) (rd : RD K φ H d v) (h : lsM S d = some xs) : ∃ a vs, v = .ref a ∧ H a = some (.lst vs) ∧ RDs K φ H xs vs := by
  cases d with
  | lst ys =>
    rw [RD] at rd
    obtain ⟨a, vs, rfl, h1, h2⟩ := rd
    cases h
    exact ⟨a, vs, rfl, h1.1, h2⟩
  | ref n =>
    simp only [lsM] at h
    split at h
    · rename_i ys e
      cases h
      obtain ⟨a, vs, e1, _, h1, h2⟩ := r.lst rd e
      exact ⟨a, vs, e1, h1, h2⟩
    · cases h
  | _ => cases h
theorem ls_of (r : SR K φ S H) (rd : RD K φ H d v) (h : lsOf S d = some xs) : ∃ a vs, v = .ref a ∧ SqL K H a vs ∧ RDs K φ H xs vs := by
  cases d with
  | lst ys =>
    rw [RD] at rd
    obtain ⟨a, vs, rfl, h1, h2⟩ := rd
    cases h
    exact ⟨a, vs, rfl, h1.sq, h2⟩
  | frz ys =>
    rw [RD] at rd
    obtain ⟨a, vs, rfl, h1, h2⟩ := rd
    cases h
    exact ⟨a, vs, rfl, h1.sq, h2⟩
  | ref n =>
    simp only [lsOf] at h
    split at h
    · rename_i ys e
      cases h
      obtain ⟨a, vs, e1, _, h1, h2⟩ := r.lst rd e
      exact ⟨a, vs, e1, SqL.of h1, h2⟩
    · cases h
  | _ => cases h
theorem sq_of (r : SR K φ S H) (rd : RD K φ H d v) (h : sqOf S d = some xs) : ∃ a vs, v = .ref a ∧ (SqL K H a vs ∨ SqT K H a vs) ∧ RDs K φ H xs vs := by
  unfold sqOf at h
  split at h
  · cases h
    obtain ⟨a, vs, e, h1, h2⟩ := rd_tup rd
    exact ⟨a, vs, e, .inr h1, h2⟩
  · obtain ⟨a, vs, e, h1, h2⟩ := ls_of r rd h
    exact ⟨a, vs, e, .inl h1, h2⟩
end

/-! ### operators -/
def dI0 (g : Int → Int → D) : D2 := fun x y S Q => ∃ i j, x = .int i ∧ y = .int j ∧ Q (g i j) S
def dI (C : Int → Int → Prop) (g : Int → Int → D) : D2 := fun x y S Q => ∃ i j, x = .int i ∧ y = .int j ∧ C i j ∧ Q (g i j) S
theorem lk_I0 {K : PySem.W.Frag} {g : Int → Int → D} {g' : Int → Int → V} (hg : ∀ i j, Flat (g i j) (g' i j)) : Lk K (dI0 g) (rI0 g') := by
  rintro φ S H Q' Q d1 d2 v1 v2 r r1 r2 q ⟨i, j, rfl, rfl, h⟩
  rw [RD] at r1 r2
  exact ⟨i, j, r1, r2, q φ H S _ _ .refl r (hg i j).rd h⟩
theorem lk_I {K : PySem.W.Frag} {C : Int → Int → Prop} {g : Int → Int → D} {g' : Int → Int → V} (hg : ∀ i j, Flat (g i j) (g' i j)) : Lk K (dI C g) (rI C g') := by
  rintro φ S H Q' Q d1 d2 v1 v2 r r1 r2 q ⟨i, j, rfl, rfl, c, h⟩
  rw [RD] at r1 r2
  exact ⟨i, j, r1, r2, c, q φ H S _ _ .refl r (hg i j).rd h⟩
theorem Lk.or {K : PySem.W.Frag} {a b : D2} {r s : R2} (h : Lk K a r) (k : Lk K b s) : Lk K (fun x y S Q => a x y S Q ∨ b x y S Q) (fun x y H Q => r x y H Q ∨ s x y H Q) := by
  rintro φ S H Q' Q d1 d2 v1 v2 r r1 r2 q (z | z)
  · exact .inl (h _ _ _ _ _ _ _ _ _ r r1 r2 q z)
  · exact .inr (k _ _ _ _ _ _ _ _ _ r r1 r2 q z)
def dAddS : D2 := fun x y S Q => ∃ i j, x = .str i ∧ y = .str j ∧ i.length + j.length ≤ sizeLine ∧ Q (.str (i ++ j)) S
def dAddT : D2 := fun x y S Q => ∃ xs ys, x = .tup xs ∧ y = .tup ys ∧ xs.length + ys.length ≤ sizeLine ∧ Q (.tup (xs ++ ys)) S
/-- two lists: a new one that is not changed any more | one of the store -/
def dCat : D2 := fun x y S Q => ∃ xs ys, lsM S x = some xs ∧ lsM S y = some ys ∧ xs.length + ys.length ≤ sizeLine ∧ Q (.lst (xs ++ ys)) S
def dCatN : D2 := fun x y S Q => ∃ xs ys, lsM S x = some xs ∧ lsM S y = some ys ∧ xs.length + ys.length ≤ sizeLine ∧ Q (.ref S.length) (S ++ [.lst (xs ++ ys)])
def dRepT : D2 := fun x y S Q => ∃ xs k, x = .tup xs ∧ y = .int k ∧ xs ≠ [] ∧ 2 ≤ k ∧ k ≤ 1000 ∧ xs.length ≤ 1000 ∧ Q (.tup (List.replicate k.toNat xs).flatten) S
section
variable {K : PySem.W.Frag}
theorem lk_addS : Lk K dAddS (fun x y H Q => ∃ i j, x = .str i ∧ y = .str j ∧ i.length + j.length ≤ sizeLine ∧ Q (.str (i ++ j)) H) := by
  rintro φ S H Q' Q d1 d2 v1 v2 r r1 r2 q ⟨i, j, rfl, rfl, c, h⟩
  rw [RD] at r1 r2
  exact ⟨i, j, r1, r2, c, q φ H S _ _ .refl r rd_str h⟩
theorem RDs.ne_nil {φ : Al} {H : Hp} {xs : List D} {vs : List V} (h : RDs K φ H xs vs) : vs = [] ↔ xs = [] := by
  constructor
  · intro e
    have := h.length
    rw [e] at this
    exact List.length_eq_zero_iff.mp this.symm
  · intro e
    rw [e, RDs] at h; exact h
theorem lk_addT : Lk K dAddT (rCatA K) := by
  rintro φ S H Q' Q d1 d2 v1 v2 r r1 r2 q ⟨xs, ys, rfl, rfl, c, h⟩
  obtain ⟨a, vs, rfl, h1, h2⟩ := rd_tup r1
  obtain ⟨b, ws, rfl, k1, k2⟩ := rd_tup r2
  refine ⟨a, b, vs, ws, rfl, rfl, h1, k1, by rw [h2.length, k2.length]; exact c, fun e => ?_, fun _ e => ?_, fun _ _ p hp => ?_⟩
  · have e' := h2.ne_nil.mp e
    subst e'
    exact q φ H S _ _ .refl r r2 h
  · have e' := k2.ne_nil.mp e
    subst e'
    rw [List.append_nil] at h
    exact q φ H S _ _ .refl r r1 h
  · exact q.tup r hp (h2.append k2) h
theorem lk_cat : Lk K dCat rCat := by
  rintro φ S H Q' Q d1 d2 v1 v2 r r1 r2 q ⟨xs, ys, e1, e2, c, h⟩
  obtain ⟨a, vs, rfl, h1, h2⟩ := ls_m r r1 e1
  obtain ⟨b, ws, rfl, k1, k2⟩ := ls_m r r2 e2
  exact ⟨a, b, vs, ws, rfl, rfl, h1, k1, by rw [h2.length, k2.length]; exact c, fun p hp => q.lst r hp (h2.append k2) h⟩
theorem lk_catN : Lk K dCatN rCat := by
  rintro φ S H Q' Q d1 d2 v1 v2 r r1 r2 q ⟨xs, ys, e1, e2, c, h⟩
  obtain ⟨a, vs, rfl, h1, h2⟩ := ls_m r r1 e1
  obtain ⟨b, ws, rfl, k1, k2⟩ := ls_m r r2 e2
  exact ⟨a, b, vs, ws, rfl, rfl, h1, k1, by rw [h2.length, k2.length]; exact c, fun p hp => q.newL r hp (h2.append k2) h⟩
theorem RDs.rep {φ : Al} {H : Hp} {xs : List D} {vs : List V} (h : RDs K φ H xs vs) : ∀ k : Nat, RDs K φ H (List.replicate k xs).flatten (List.replicate k vs).flatten
  | 0 => .nil
  | k + 1 => by
    rw [List.replicate_succ, List.replicate_succ, List.flatten_cons, List.flatten_cons]
    exact h.append (RDs.rep h k)
theorem lk_repT : Lk K dRepT (rRepT K) := by
  rintro φ S H Q' Q d1 d2 v1 v2 r r1 r2 q ⟨xs, k, rfl, rfl, ne, c1, c2, c3, h⟩
  obtain ⟨a, vs, rfl, h1, h2⟩ := rd_tup r1
  rw [RD] at r2
  subst r2
  exact ⟨a, k, vs, rfl, rfl, h1, fun e => ne (h2.ne_nil.mp e), c1, c2, by rw [h2.length]; exact c3, fun p hp => q.tup r hp (h2.rep _) h⟩
/-- + of ints, texts, tuples -/
def dAdd : D2 := fun x y S Q => match x, y with
  | .int i, .int j => Q (.int (i + j)) S
  | .str i, .str j => i.length + j.length ≤ sizeLine ∧ Q (.str (i ++ j)) S
  | .tup xs, .tup ys => xs.length + ys.length ≤ sizeLine ∧ Q (.tup (xs ++ ys)) S
  | _, _ => False
theorem op_addA {X : Cx} : OpR X (binaryOp .Add) (fun x y H Q => rI0 (fun i j => .int (i + j)) x y H Q ∨ (∃ i j, x = .str i ∧ y = .str j ∧ i.length + j.length ≤ sizeLine ∧ Q (.str (i ++ j)) H) ∨ rCatA X.K x y H Q) :=
  OpR.or op_add (OpR.or op_add_str op_catA)
theorem lk_add : Lk K dAdd (fun x y H Q => rI0 (fun i j => .int (i + j)) x y H Q ∨ (∃ i j, x = .str i ∧ y = .str j ∧ i.length + j.length ≤ sizeLine ∧ Q (.str (i ++ j)) H) ∨ rCatA K x y H Q) := by
  intro φ S H Q' Q x y v1 v2 r r1 r2 q h
  unfold dAdd at h
  split at h
  · exact .inl (lk_I0 (g := fun i j => .int (i + j)) (fun _ _ => rfl) φ S H Q' Q _ _ v1 v2 r r1 r2 q ⟨_, _, rfl, rfl, h⟩)
  · exact .inr (.inl (lk_addS φ S H Q' Q _ _ v1 v2 r r1 r2 q ⟨_, _, rfl, rfl, h⟩))
  · exact .inr (.inr (lk_addT φ S H Q' Q _ _ v1 v2 r r1 r2 q ⟨_, _, rfl, rfl, h⟩))
  · exact h.elim
end
section
variable {F : Fam} {W : WX} {a b c e : Expr} {es rest : List Expr} {pos : Pos} {ta tb tc te : DTE} {uA uB uC : DTT} {t : DTA}
theorem de_add (ha : DE F W a ta) (hb : DE F W b tb) : DE F W (.BinOp a .Add b pos) (dOp dAdd ta tb) := de_op (fun i => F.hK i ▸ op_addA) lk_add ha hb
theorem de_cat (ha : DE F W a ta) (hb : DE F W b tb) : DE F W (.BinOp a .Add b pos) (dOp dCat ta tb) := de_op (fun _ => op_cat) lk_cat ha hb
theorem de_catN (ha : DE F W a ta) (hb : DE F W b tb) : DE F W (.BinOp a .Add b pos) (dOp dCatN ta tb) := de_op (fun _ => op_cat) lk_catN ha hb
theorem de_sub (ha : DE F W a ta) (hb : DE F W b tb) : DE F W (.BinOp a .Sub b pos) (dOp (dI0 fun i j => .int (i - j)) ta tb) := de_op (fun _ => op_sub) (lk_I0 fun _ _ => rfl) ha hb
/-- one factor small, or both not too great -/
def CMulA (i j : Int) : Prop := CMul i j ∨ CMulW i j
theorem op_mulA {X : Cx} : OpR X (binaryOp .Mult) (rI CMulA fun i j => .int (i * j)) := by
  intro pins s σ H x y v u Q I rx ry h
  obtain ⟨i, j, e1, e2, c, q⟩ := h
  rcases c with c | c
  · exact op_mul pins s σ H x y v u Q I rx ry ⟨i, j, e1, e2, c, q⟩
  · exact op_mulW pins s σ H x y v u Q I rx ry ⟨i, j, e1, e2, c, q⟩
theorem de_mul (ha : DE F W a ta) (hb : DE F W b tb) : DE F W (.BinOp a .Mult b pos) (dOp (dI CMulA fun i j => .int (i * j)) ta tb) := de_op (fun _ => op_mulA) (lk_I fun _ _ => rfl) ha hb
theorem de_repT (ha : DE F W a ta) (hb : DE F W b tb) : DE F W (.BinOp a .Mult b pos) (dOp dRepT ta tb) := de_op (fun i => F.hK i ▸ op_repT) lk_repT ha hb
theorem de_fdiv (ha : DE F W a ta) (hb : DE F W b tb) : DE F W (.BinOp a .FloorDiv b pos) (dOp (dI CDivW fun i j => .int (i / j)) ta tb) := de_op (fun _ => op_fdivW) (lk_I fun _ _ => rfl) ha hb
theorem de_mod (ha : DE F W a ta) (hb : DE F W b tb) : DE F W (.BinOp a .Mod b pos) (dOp (dI (fun _ j => 0 < j) fun i j => .int (i % j)) ta tb) := de_op (fun _ => op_mod) (lk_I fun _ _ => rfl) ha hb
theorem de_pow (ha : DE F W a ta) (hb : DE F W b tb) : DE F W (.BinOp a .Pow b pos) (dOp (dI CPow fun i j => .int (i ^ j.toNat)) ta tb) := de_op (fun _ => op_pow) (lk_I fun _ _ => rfl) ha hb
theorem de_shl (ha : DE F W a ta) (hb : DE F W b tb) : DE F W (.BinOp a .LShift b pos) (dOp (dI CPow fun i j => .int (i * 2 ^ j.toNat)) ta tb) := de_op (fun _ => op_shl) (lk_I fun _ _ => rfl) ha hb
theorem de_shr (ha : DE F W a ta) (hb : DE F W b tb) : DE F W (.BinOp a .RShift b pos) (dOp (dI (fun _ j => 0 ≤ j) fun i j => .int (i / 2 ^ j.toNat)) ta tb) := de_op (fun _ => op_shr) (lk_I fun _ _ => rfl) ha hb
theorem de_band (ha : DE F W a ta) (hb : DE F W b tb) : DE F W (.BinOp a .BitAnd b pos) (dOp (dI0 fun i j => .int (Builtin.bitAnd i j)) ta tb) := de_op (fun _ => op_and) (lk_I0 fun _ _ => rfl) ha hb
theorem de_bor (ha : DE F W a ta) (hb : DE F W b tb) : DE F W (.BinOp a .BitOr b pos) (dOp (dI0 fun i j => .int (Builtin.bitOr i j)) ta tb) := de_op (fun _ => op_or) (lk_I0 fun _ _ => rfl) ha hb
def dNeg : D → Store → QD → Prop := fun x S Q => ∃ i, x = .int i ∧ Q (.int (-i)) S
def dInv : D → Store → QD → Prop := fun x S Q => ∃ i, x = .int i ∧ Q (.int (Builtin.bitNot i)) S
theorem de_neg (ha : DE F W a ta) : DE F W (.UnaryOp .USub a pos) (dUn dNeg ta) := de_un (fun _ => un_neg) (by
  rintro φ S H Q' Q d v r rd q ⟨i, rfl, h⟩
  rw [RD] at rd
  exact ⟨i, rd, q φ H S _ _ .refl r rd_int h⟩) ha
theorem de_inv (ha : DE F W a ta) : DE F W (.UnaryOp .Invert a pos) (dUn dInv ta) := de_un (fun _ => un_inv) (by
  rintro φ S H Q' Q d v r rd q ⟨i, rfl, h⟩
  rw [RD] at rd
  exact ⟨i, rd, q φ H S _ _ .refl r rd_int h⟩) ha
/-! comparisons of ints -/
abbrev dLt : D2 := dI0 fun i j => .bl (decide (i < j))
abbrev dLe : D2 := dI0 fun i j => .bl (decide (i ≤ j))
abbrev dGt : D2 := dI0 fun i j => .bl (decide (j < i))
abbrev dGe : D2 := dI0 fun i j => .bl (decide (j ≤ i))
theorem lk_lt {K : PySem.W.Frag} : Lk K dLt (rI0 fun i j => .bl (decide (i < j))) := lk_I0 fun _ _ => rfl
theorem lk_le {K : PySem.W.Frag} : Lk K dLe (rI0 fun i j => .bl (decide (i ≤ j))) := lk_I0 fun _ _ => rfl
theorem lk_gt {K : PySem.W.Frag} : Lk K dGt (rI0 fun i j => .bl (decide (j < i))) := lk_I0 fun _ _ => rfl
theorem lk_ge {K : PySem.W.Frag} : Lk K dGe (rI0 fun i j => .bl (decide (j ≤ i))) := lk_I0 fun _ _ => rfl
/-- is None, is not None -/
def isN : D → Bool
  | .non => true
  | _ => false
theorem isN_eq {K : PySem.W.Frag} {φ : Al} {H : Hp} {d : D} {v : V} (h : RD K φ H d v) : decide (v = .non) = isN d := by
  cases d <;> rw [RD] at h
  case non => rw [h]; rfl
  case tup => obtain ⟨a, _, e, _⟩ := h; rw [e]; rfl
  case lst => obtain ⟨a, _, e, _⟩ := h; rw [e]; rfl
  case frz => obtain ⟨a, _, e, _⟩ := h; rw [e]; rfl
  case dic => obtain ⟨a, _, e, _⟩ := h; rw [e]; rfl
  case ref => obtain ⟨a, e, _⟩ := h; rw [e]; rfl
  case exo => obtain ⟨_, e, _⟩ := h; rw [e]; rfl
  all_goals (rw [h]; rfl)
def dIsN : D2 := fun x y S Q => y = .non ∧ Q (.bl (isN x)) S
def dNotN : D2 := fun x y S Q => y = .non ∧ Q (.bl (!isN x)) S
theorem lk_isN {K : PySem.W.Frag} : Lk K dIsN (fun x y H Q => y = .non ∧ Q (.bl (decide (x = .non))) H) := by
  rintro φ S H Q' Q d1 d2 v1 v2 r r1 r2 q ⟨rfl, h⟩
  rw [isN_eq r1]
  rw [RD] at r2
  exact ⟨r2, q φ H S _ _ .refl r rd_bl h⟩
theorem lk_notN {K : PySem.W.Frag} : Lk K dNotN (fun x y H Q => y = .non ∧ Q (.bl (!decide (x = .non))) H) := by
  rintro φ S H Q' Q d1 d2 v1 v2 r r1 r2 q ⟨rfl, h⟩
  rw [isN_eq r1]
  rw [RD] at r2
  exact ⟨r2, q φ H S _ _ .refl r rd_bl h⟩
/-! ### a op1 b op2 c -/
def dChain (r r' : D2) (ta tb tc : DTE) : DTE := fun ρ S Q E => ta ρ S (fun x S1 => tb ρ S1 (fun y S2 => r x y S2 fun z S3 => ∃ k, z = .bl k ∧ (if k = true then tc ρ S3 (fun w S4 => r' y w S4 Q) E else Q (.bl false) S3)) E) E
theorem de_chain {op op' : CmpOp} {r r' : R2} {s s' : D2} (ho : ∀ i, OpR (F.X i) (compareOp op) r) (ho' : ∀ i, OpR (F.X i) (compareOp op') r') (l : Lk F.K s r) (l' : Lk F.K s' r') (ha : DE F W a ta) (hb : DE F W b tb) (hc : DE F W c tc)
    (hm : lastMarks [op, op'] [b, c] = false := by with_unfolding_all rfl) : DE F W (.Compare a [op, op'] [b, c] pos) (dChain s s' ta tb tc) := by
  obtain ⟨t1, p1, k1⟩ := ha
  obtain ⟨t2, p2, k2⟩ := hb
  obtain ⟨t3, p3, k3⟩ := hc
  refine ⟨_, fun i => pe_chain (ho i) (ho' i) (p1 i) (p2 i) (p3 i) hm, fun σ ρ φ S H E Q' Q o q h => ?_⟩
  refine k1 σ ρ φ S H E _ _ o (fun φ1 H1 S1 d v s1 r1 rd h1 => ?_) h
  refine k2 σ ρ φ1 S1 H1 E _ _ (o.mono s1 r1) (fun φ2 H2 S2 d2 v2 s2 r2 rd2 h2 => ?_) h1
  refine l φ2 S2 H2 _ _ d d2 v v2 r2 (RD.mono s2 r1.muts _ _ rd) rd2 (fun φ3 H3 S3 d3 v3 s3 r3 rd3 h3 => ?_) h2
  obtain ⟨k, rfl, h4⟩ := h3
  rw [RD] at rd3
  refine ⟨k, rd3, ?_⟩
  have s13 := (s1.trans s2).trans s3
  cases k with
  | false => rw [if_neg Bool.false_ne_true] at h4 ⊢; exact q φ3 H3 S3 _ _ s13 r3 rd_bl h4
  | true =>
    rw [if_pos rfl] at h4 ⊢
    refine k3 σ ρ φ3 S3 H3 E _ _ (o.mono s13 r3) (fun φ4 H4 S4 d4 v4 s4 r4 rd4 h5 => ?_) h4
    exact l' φ4 S4 H4 _ _ d2 d4 v2 v4 r4 (RD.mono (s3.trans s4) r2.muts _ _ rd2) rd4 (q.mono (s13.trans s4)) h5
theorem dt_chain {op op' : CmpOp} {r r' : R2} {s s' : D2} (ho : ∀ i, OpR (F.X i) (compareOp op) r) (ho' : ∀ i, OpR (F.X i) (compareOp op') r') (l : Lk F.K s r) (l' : Lk F.K s' r') (ha : DE F W a ta) (hb : DE F W b tb) (hc : DE F W c tc)
    (hm : lastMarks [op, op'] [b, c] = false := by with_unfolding_all rfl) : DT F W (.Compare a [op, op'] [b, c] pos) (dTest (dChain s s' ta tb tc)) := by
  obtain ⟨t1, p1, k1⟩ := ha
  obtain ⟨t2, p2, k2⟩ := hb
  obtain ⟨t3, p3, k3⟩ := hc
  refine ⟨_, fun i => pt_chain (ho i) (ho' i) (p1 i) (p2 i) (p3 i) hm, fun σ ρ φ S H E Q' Q o q h => ?_⟩
  refine k1 σ ρ φ S H E _ _ o (fun φ1 H1 S1 d v s1 r1 rd h1 => ?_) h
  refine k2 σ ρ φ1 S1 H1 E _ _ (o.mono s1 r1) (fun φ2 H2 S2 d2 v2 s2 r2 rd2 h2 => ?_) h1
  refine l φ2 S2 H2 _ _ d d2 v v2 r2 (RD.mono s2 r1.muts _ _ rd) rd2 (fun φ3 H3 S3 d3 v3 s3 r3 rd3 h3 => ?_) h2
  obtain ⟨k, rfl, h4⟩ := h3
  rw [RD] at rd3
  refine ⟨k, rd3, ?_⟩
  have s13 := (s1.trans s2).trans s3
  cases k with
  | false =>
    rw [if_neg Bool.false_ne_true] at h4 ⊢
    obtain ⟨k, e, h4⟩ := h4
    cases e
    exact ⟨_, rfl, q φ3 H3 S3 _ s13 r3 h4⟩
  | true =>
    rw [if_pos rfl] at h4 ⊢
    refine k3 σ ρ φ3 S3 H3 E _ _ (o.mono s13 r3) (fun φ4 H4 S4 d4 v4 s4 r4 rd4 h5 => ?_) h4
    refine l' φ4 S4 H4 _ _ d2 d4 v2 v4 r4 (RD.mono (s3.trans s4) r2.muts _ _ rd2) rd4 (fun φ5 H5 S5 d5 v5 s5 r5 rd5 h6 => ?_) h5
    obtain ⟨k, rfl, h7⟩ := h6
    rw [RD] at rd5
    exact ⟨k, rd5, q φ5 H5 S5 _ ((s13.trans s4).trans s5) r5 h7⟩

/-! ### subscripts -/
def dIx : D2 := fun x y S Q => ∃ xs i v, sqOf S x = some xs ∧ y = .int i ∧ atI xs i = some v ∧ Q v S
theorem at_rd {K : PySem.W.Frag} {φ : Al} {H : Hp} {xs : List D} {vs : List V} {i : Int} {d : D} (h : RDs K φ H xs vs) (e : atI xs i = some d) : ∃ v, atI vs i = some v ∧ RD K φ H d v := by
  unfold atI at e ⊢
  rw [h.length]
  cases q : ixN xs.length i with
  | none => rw [q] at e; cases e
  | some j =>
    rw [q] at e
    obtain ⟨v, e1, e2⟩ := h.get (i := j) e
    exact ⟨v, e1, e2⟩
theorem lk_ix {K : PySem.W.Frag} : Lk K dIx (rIx K) := by
  rintro φ S H Q' Q d1 d2 v1 v2 r r1 r2 q ⟨xs, i, d, e, rfl, e2, h⟩
  obtain ⟨a, vs, rfl, h1, h2⟩ := sq_of r r1 e
  rw [RD] at r2
  subst r2
  obtain ⟨v, e3, rd⟩ := at_rd h2 e2
  rcases h1 with h1 | h1
  · exact .inl ⟨a, vs, i, v, rfl, rfl, h1, e3, q φ H S _ _ .refl r rd h⟩
  · exact .inr (.inl ⟨a, vs, i, v, rfl, rfl, h1, e3, q φ H S _ _ .refl r rd h⟩)
theorem de_at (ha : DE F W a ta) (hb : DE F W b tb) (hs : PlainIx b := by exact fun _ _ => rfl) : DE F W (.Subscript a b pos) (dOp dIx ta tb) := de_ix (fun i => F.hK i ▸ ix_seq) lk_ix ha hb hs
/-! slices -/
abbrev DTO := Rho → Store → (Option Int → Store → Prop) → XQ → Prop
def EndO (K : PySem.W.Frag) (φ : Al) (H : Hp) (Q' : Option Int → Store → Prop) (Q : Option Int → Hp → Prop) : Prop :=
  ∀ φ' H' S' b, Step φ φ' H H' → SR K φ' S' H' → Q' b S' → Q b H'
def DO (F : Fam) (W : WX) (e : Option Expr) (t' : DTO) : Prop :=
  ∃ t : TO, (∀ i, PO (F.X i) e t) ∧ ∀ σ ρ φ S H E Q' Q, Ok F.K W σ ρ φ S H E → EndO F.K φ H Q' Q → t' ρ S Q' E → t σ H Q
def dNoPart : DTO := fun _ S Q _ => Q none S
def dPart (te : DTE) : DTO := fun ρ S Q E => te ρ S (fun d S1 => ∃ i, d = .int i ∧ Q (some i) S1) E
theorem do_none : DO F W none dNoPart := ⟨_, fun _ => po_none, fun σ ρ φ S H E Q' Q o q h => q φ H S _ .refl o.sr h⟩
theorem do_some (h : DE F W e te) : DO F W (some e) (dPart te) := by
  obtain ⟨t1, p1, k1⟩ := h
  refine ⟨_, fun i => po_some (p1 i), fun σ ρ φ S H E Q' Q o q h => ?_⟩
  refine k1 σ ρ φ S H E _ _ o (fun φ1 H1 S1 d v s1 r1 rd h1 => ?_) h
  obtain ⟨i, rfl, h2⟩ := h1
  rw [RD] at rd
  exact ⟨i, rd, q φ1 H1 S1 _ s1 r1 h2⟩
def cutD (xs : List D) (lo hi : Option Int) : List D := (xs.drop (HT.sIx xs.length 0 lo)).take (HT.sIx xs.length xs.length hi - HT.sIx xs.length 0 lo)
theorem cut_rd {K : PySem.W.Frag} {φ : Al} {H : Hp} {xs : List D} {vs : List V} (h : RDs K φ H xs vs) (lo hi : Option Int) : RDs K φ H (cutD xs lo hi) (cutV vs lo hi) := by
  unfold cutD cutV
  rw [h.length]
  exact (h.drop _).take _
def dSl (r : D → Option Int → Option Int → Store → QD → Prop) (te : DTE) (tl th : DTO) : DTE := fun ρ S Q E => te ρ S (fun x S1 => tl ρ S1 (fun l S2 => th ρ S2 (fun u S3 => r x l u S3 Q) E) E) E
/-- of a tuple; of a list: a new one that is not changed any more -/
def dSlT : D → Option Int → Option Int → Store → QD → Prop := fun x lo hi S Q => ∃ xs, x = .tup xs ∧ Q (.tup (cutD xs lo hi)) S
def dSlL : D → Option Int → Option Int → Store → QD → Prop := fun x lo hi S Q => ∃ xs, lsOf S x = some xs ∧ Q (.lst (cutD xs lo hi)) S
theorem sl_whole {xs : List D} {lo hi : Option Int} (h : HT.sIx xs.length 0 lo = 0 ∧ HT.sIx xs.length xs.length hi = xs.length) : cutD xs lo hi = xs := by
  unfold cutD
  rw [h.1, h.2]
  simp
theorem de_sl {r : V → Option Int → Option Int → Hp → VK → Prop} {r' : D → Option Int → Option Int → Store → QD → Prop} {l u : Option Expr} {tl th : DTO} {p2 : Pos} (hr : ∀ i, SlR (F.X i) r)
    (lk : ∀ φ S H Q' Q d v lo hi, SR F.K φ S H → RD F.K φ H d v → EndV F.K φ H Q' Q → r' d lo hi S Q' → r v lo hi H Q) (he : DE F W e te) (hl : DO F W l tl) (hu : DO F W u th) : DE F W (.Subscript e (.Slice l u none p2) pos) (dSl r' te tl th) := by
  obtain ⟨t1, p1, k1⟩ := he
  obtain ⟨t2, p2, k2⟩ := hl
  obtain ⟨t3, p3, k3⟩ := hu
  refine ⟨_, fun i => pe_slice (hr i) (p1 i) (p2 i) (p3 i), fun σ ρ φ S H E Q' Q o q h => ?_⟩
  refine k1 σ ρ φ S H E _ _ o (fun φ1 H1 S1 d v s1 r1 rd h1 => ?_) h
  refine k2 σ ρ φ1 S1 H1 E _ _ (o.mono s1 r1) (fun φ2 H2 S2 lo s2 r2 h2 => ?_) h1
  refine k3 σ ρ φ2 S2 H2 E _ _ (o.mono (s1.trans s2) r2) (fun φ3 H3 S3 hi s3 r3 h3 => ?_) h2
  exact lk φ3 S3 H3 _ _ d v lo hi r3 (RD.mono (s2.trans s3) r1.muts _ _ rd) (q.mono ((s1.trans s2).trans s3)) h3
theorem de_slT {l u : Option Expr} {tl th : DTO} {p2 : Pos} (he : DE F W e te) (hl : DO F W l tl) (hu : DO F W u th) : DE F W (.Subscript e (.Slice l u none p2) pos) (dSl dSlT te tl th) := by
  refine de_sl (fun i => F.hK i ▸ sl_tupA) ?_ he hl hu
  rintro φ S H Q' Q d v lo hi r rd q ⟨xs, rfl, h⟩
  obtain ⟨a, vs, rfl, h1, h2⟩ := rd_tup rd
  refine ⟨a, vs, rfl, h1, fun w => ?_, fun _ p hp => q.tup r hp (cut_rd h2 lo hi) h⟩
  rw [h2.length] at w
  rw [sl_whole w] at h
  exact q φ H S _ _ .refl r rd h
theorem de_slL {l u : Option Expr} {tl th : DTO} {p2 : Pos} (he : DE F W e te) (hl : DO F W l tl) (hu : DO F W u th) : DE F W (.Subscript e (.Slice l u none p2) pos) (dSl dSlL te tl th) := by
  refine de_sl (fun i => F.hK i ▸ sl_list) ?_ he hl hu
  rintro φ S H Q' Q d v lo hi r rd q ⟨xs, e, h⟩
  obtain ⟨a, vs, rfl, h1, h2⟩ := ls_of r rd e
  exact ⟨a, vs, rfl, h1, fun p hp => q.lst r hp (cut_rd h2 lo hi) h⟩

/-! ### calls of built-ins -/
abbrev DR := List D → Store → QD → Prop
def LkC (K : PySem.W.Frag) (r' : DR) (r : List V → Hp → VK → Prop) : Prop := ∀ φ S H Q' Q ds vs, SR K φ S H → RDs K φ H ds vs → EndV K φ H Q' Q → r' ds S Q' → r vs H Q
def dCB (r : DR) (t : DTA) : DTE := fun ρ S Q E => t ρ S (fun ds S1 => r ds S1 Q) E
theorem de_callB {x : Str} {p : Pos} {id : String} {r : List V → Hp → VK → Prop} {r' : DR} (hc : ∀ i, CallR (F.X i) (.builtin id) r) (l : LkC F.K r' r) (hg : ∀ i, Gl (F.X i) x) (hm : ∀ i, (F.X i).mg x = none) (hv : bootBuiltins x = some (.builtin id)) (ha : DA F W (e :: es) t) (hn : x ≠ "__name__" := by decide) (hdb : (x == ("__debug__" : Str)) = false := by decide)
    (he : ∀ i, starEach (e :: es) (F.X i).env = (false, eval e (F.X i).env) :: starEach es (F.X i).env := by intro _; rfl) (hpl : ∀ i, (backTo pos (starEach es (F.X i).env)).any (·.1) = false := by intro _; rfl) : DE F W (.Call (.Name x p) (e :: es) [] pos) (dCB r' t) := by
  obtain ⟨t1, p1, k1⟩ := ha
  refine ⟨_, fun i => pe_callB (hc i) (hg i) (hm i) hv (p1 i) hn hdb (he i) (hpl i), fun σ ρ φ S H E Q' Q o q h => ?_⟩
  exact k1 σ ρ φ S H E _ _ o (fun φ1 H1 S1 ds vs s1 r1 rd h1 => l φ1 S1 H1 _ _ ds vs r1 rd (q.mono s1) h1) h
theorem de_callTy {x : Str} {p : Pos} {T : String} {r : List V → Hp → VK → Prop} {r' : DR} (hc : ∀ i, CallR (F.X i) (.type T) r) (l : LkC F.K r' r) (hg : ∀ i, Gl (F.X i) x) (hm : ∀ i, (F.X i).mg x = none) (hv : bootBuiltins x = some (.type T)) (ha : DA F W (e :: es) t) (hn : x ≠ "__name__" := by decide) (hdb : (x == ("__debug__" : Str)) = false := by decide)
    (he : ∀ i, starEach (e :: es) (F.X i).env = (false, eval e (F.X i).env) :: starEach es (F.X i).env := by intro _; rfl) (hpl : ∀ i, (backTo pos (starEach es (F.X i).env)).any (·.1) = false := by intro _; rfl) : DE F W (.Call (.Name x p) (e :: es) [] pos) (dCB r' t) := by
  obtain ⟨t1, p1, k1⟩ := ha
  refine ⟨_, fun i => pe_callTy (hc i) (hg i) (hm i) hv (p1 i) hn hdb (he i) (hpl i), fun σ ρ φ S H E Q' Q o q h => ?_⟩
  exact k1 σ ρ φ S H E _ _ o (fun φ1 H1 S1 ds vs s1 r1 rd h1 => l φ1 S1 H1 _ _ ds vs r1 rd (q.mono s1) h1) h
section
variable {K : PySem.W.Frag}
theorem rds1 {φ : Al} {H : Hp} {d : D} {vs : List V} (h : RDs K φ H [d] vs) : ∃ v, vs = [v] ∧ RD K φ H d v := by
  rw [RDs] at h
  obtain ⟨v, r, rfl, h1, h2⟩ := h
  rw [RDs] at h2
  subst h2
  exact ⟨v, rfl, h1⟩
theorem rds2 {φ : Al} {H : Hp} {d c : D} {vs : List V} (h : RDs K φ H [d, c] vs) : ∃ v w, vs = [v, w] ∧ RD K φ H d v ∧ RD K φ H c w := by
  rw [RDs] at h
  obtain ⟨v, r, rfl, h1, h2⟩ := h
  obtain ⟨w, rfl, h3⟩ := rds1 h2
  exact ⟨v, w, rfl, h1, h3⟩
def cInt : DR := fun ds S Q => (∃ i, ds = [.int i] ∧ Q (.int i) S) ∨ ∃ k, ds = [.bl k] ∧ Q (.int (if k then 1 else 0)) S
theorem lk_int : LkC K cInt (fun xs H Q => (∃ i, xs = [.int i] ∧ Q (.int i) H) ∨ ∃ k, xs = [.bl k] ∧ Q (.int (if k then 1 else 0)) H) := by
  rintro φ S H Q' Q ds vs r rd q (⟨i, rfl, h⟩ | ⟨i, rfl, h⟩)
  · obtain ⟨v, rfl, h1⟩ := rds1 rd
    rw [RD] at h1
    exact .inl ⟨i, by rw [h1], q φ H S _ _ .refl r rd_int h⟩
  · obtain ⟨v, rfl, h1⟩ := rds1 rd
    rw [RD] at h1
    exact .inr ⟨i, by rw [h1], q φ H S _ _ .refl r rd_int h⟩
def cAbs : DR := fun ds S Q => ∃ i, ds = [.int i] ∧ Q (.int (if i < 0 then -i else i)) S
theorem lk_abs : LkC K cAbs (fun xs H Q => ∃ i, xs = [.int i] ∧ Q (.int (if i < 0 then -i else i)) H) := by
  rintro φ S H Q' Q ds vs r rd q ⟨i, rfl, h⟩
  obtain ⟨v, rfl, h1⟩ := rds1 rd
  rw [RD] at h1
  exact ⟨i, by rw [h1], q φ H S _ _ .refl r rd_int h⟩
def cLen : DR := fun ds S Q => ∃ d xs, ds = [d] ∧ sqOf S d = some xs ∧ Q (.int xs.length) S
theorem lk_len : LkC K cLen (fun xs H Q => ∃ p ys, xs = [.ref p] ∧ (SqL K H p ys ∨ SqT K H p ys) ∧ Q (.int ys.length) H) := by
  rintro φ S H Q' Q ds vs r rd q ⟨d, xs, rfl, e, h⟩
  obtain ⟨v, rfl, h1⟩ := rds1 rd
  obtain ⟨a, ws, rfl, h2, h3⟩ := sq_of r h1 e
  refine ⟨a, ws, rfl, h2, ?_⟩
  rw [h3.length]
  exact q φ H S _ _ .refl r rd_int h
/-- list(x): a new one, not changed any more | of the store -/
def cList : DR := fun ds S Q => ∃ d xs, ds = [d] ∧ sqOf S d = some xs ∧ Q (.lst xs) S
def cListN : DR := fun ds S Q => ∃ d xs, ds = [d] ∧ sqOf S d = some xs ∧ Q (.ref S.length) (S ++ [.lst xs])
theorem lk_list : LkC K cList (fun xs H Q => ∃ p ys, xs = [.ref p] ∧ (SqL K H p ys ∨ SqT K H p ys) ∧ ∀ l, H l = none → Q (.ref l) (upd H l (.lst ys))) := by
  rintro φ S H Q' Q ds vs r rd q ⟨d, xs, rfl, e, h⟩
  obtain ⟨v, rfl, h1⟩ := rds1 rd
  obtain ⟨a, ws, rfl, h2, h3⟩ := sq_of r h1 e
  exact ⟨a, ws, rfl, h2, fun l hl => q.lst r hl h3 h⟩
theorem lk_listN : LkC K cListN (fun xs H Q => ∃ p ys, xs = [.ref p] ∧ (SqL K H p ys ∨ SqT K H p ys) ∧ ∀ l, H l = none → Q (.ref l) (upd H l (.lst ys))) := by
  rintro φ S H Q' Q ds vs r rd q ⟨d, xs, rfl, e, h⟩
  obtain ⟨v, rfl, h1⟩ := rds1 rd
  obtain ⟨a, ws, rfl, h2, h3⟩ := sq_of r h1 e
  exact ⟨a, ws, rfl, h2, fun l hl => q.newL r hl h3 h⟩
def cTuple : DR := fun ds S Q => ∃ d xs, ds = [d] ∧ sqOf S d = some xs ∧ Q (.tup xs) S
theorem lk_tuple : LkC K cTuple (fun xs H Q => ∃ p ys, xs = [.ref p] ∧ ((SqL K H p ys ∧ ∀ l, H l = none → Q (.ref l) (upd H l (.tup ys))) ∨ (SqT K H p ys ∧ Q (.ref p) H))) := by
  rintro φ S H Q' Q ds vs r rd q ⟨d, xs, rfl, e, h⟩
  obtain ⟨v, rfl, h1⟩ := rds1 rd
  unfold sqOf at e
  split at e
  · cases e
    obtain ⟨a, ws, rfl, h2, h3⟩ := rd_tup h1
    exact ⟨a, ws, rfl, .inr ⟨h2, q φ H S _ _ .refl r h1 h⟩⟩
  · obtain ⟨a, ws, rfl, h2, h3⟩ := ls_of r h1 e
    exact ⟨a, ws, rfl, .inl ⟨h2, fun l hl => q.tup r hl h3 h⟩⟩
def cAll : DR := fun ds S Q => ∃ (d : D) (bs : List Bool), ds = [d] ∧ lsOf S d = some (bs.map D.bl) ∧ Q (.bl (bs.all id)) S
def cAny : DR := fun ds S Q => ∃ (d : D) (bs : List Bool), ds = [d] ∧ lsOf S d = some (bs.map D.bl) ∧ Q (.bl (bs.any id)) S
theorem lk_all : LkC K cAll (rAll K) := by
  rintro φ S H Q' Q ds vs r rd q ⟨d, bs, rfl, e, h⟩
  obtain ⟨v, rfl, h1⟩ := rds1 rd
  obtain ⟨a, ws, rfl, h2, h3⟩ := ls_of r h1 e
  have := h3.bls_inv
  subst this
  exact ⟨a, bs, rfl, h2, q φ H S _ _ .refl r rd_bl h⟩
theorem lk_any : LkC K cAny (rAny K) := by
  rintro φ S H Q' Q ds vs r rd q ⟨d, bs, rfl, e, h⟩
  obtain ⟨v, rfl, h1⟩ := rds1 rd
  obtain ⟨a, ws, rfl, h2, h3⟩ := ls_of r h1 e
  have := h3.bls_inv
  subst this
  exact ⟨a, bs, rfl, h2, q φ H S _ _ .refl r rd_bl h⟩
def cSum : DR := fun ds S Q => ∃ (d : D) (ns : List Int), ds = [d] ∧ lsOf S d = some (ns.map D.int) ∧ Q (.int ns.sum) S
theorem lk_sum : LkC K cSum (rSum K) := by
  rintro φ S H Q' Q ds vs r rd q ⟨d, bs, rfl, e, h⟩
  obtain ⟨v, rfl, h1⟩ := rds1 rd
  obtain ⟨a, ws, rfl, h2, h3⟩ := ls_of r h1 e
  have := h3.ints_inv
  subst this
  exact ⟨a, bs, rfl, h2, q φ H S _ _ .refl r rd_int h⟩
end
end
end Dy
namespace Dy
open PySem PySem.Spec PyProof.Rows L2

/-! ### statements -/
structure DEnds where
  nx : Rho → Store → Prop
  rt : D → Store → Prop
  bk : Rho → Store → Prop := fun _ _ => False
  ct : Rho → Store → Prop := fun _ _ => False
  ex : Exc → Rho → Store → Prop := fun _ _ _ => False
abbrev DTS := DEnds → Rho → Store → Prop
structure Lnk (K : PySem.W.Frag) (W : WX) (φ : Al) (H : Hp) (D' : DEnds) (D : Ends) : Prop where
  nx : ∀ φ' H' S' ρ' σ', Step φ φ' H H' → SR K φ' S' H' → Sl K φ' H' ρ' σ' → D'.nx ρ' S' → D.nx σ' H'
  rt : ∀ φ' H' S' d v, Step φ φ' H H' → SR K φ' S' H' → RD K φ' H' d v → D'.rt d S' → D.rt v H'
  bk : ∀ φ' H' S' ρ' σ', Step φ φ' H H' → SR K φ' S' H' → Sl K φ' H' ρ' σ' → D'.bk ρ' S' → D.bk σ' H'
  ct : ∀ φ' H' S' ρ' σ', Step φ φ' H H' → SR K φ' S' H' → Sl K φ' H' ρ' σ' → D'.ct ρ' S' → D.ct σ' H'
  ex : ∀ φ' H' S' ρ' σ' x cls d, Step φ φ' H H' → SR K φ' S' H' → Sl K φ' H' ρ' σ' → ExR K φ' H' x cls d → D'.ex x ρ' S' → W cls d σ' H'
section
variable {K : PySem.W.Frag} {W : WX} {φ φ' : Al} {H H' : Hp} {S : Store} {ρ : Rho} {σ : L2.St} {D' : DEnds} {D : Ends}
theorem Lnk.mono (l : Lnk K W φ H D' D) (s : Step φ φ' H H') : Lnk K W φ' H' D' D :=
  ⟨fun _ _ _ _ _ t r sl h => l.nx _ _ _ _ _ (s.trans t) r sl h, fun _ _ _ _ _ t r rd h => l.rt _ _ _ _ _ (s.trans t) r rd h, fun _ _ _ _ _ t r sl h => l.bk _ _ _ _ _ (s.trans t) r sl h,
    fun _ _ _ _ _ t r sl h => l.ct _ _ _ _ _ (s.trans t) r sl h, fun _ _ _ _ _ _ _ _ t r sl x h => l.ex _ _ _ _ _ _ _ _ (s.trans t) r sl x h⟩
theorem Lnk.ok (l : Lnk K W φ H D' D) (r : SR K φ S H) (sl : Sl K φ H ρ σ) : Ok K W σ ρ φ S H (fun x S1 => D'.ex x ρ S1) :=
  ⟨r, sl, fun _ _ _ _ _ _ t r' x h => l.ex _ _ _ _ _ _ _ _ t r' (sl.mono t r.muts) x h⟩
/-- another next end -/
theorem Lnk.next (l : Lnk K W φ H D' D) {n' : Rho → Store → Prop} {n : L2.St → Hp → Prop} (h : ∀ φ' H' S' ρ' σ', Step φ φ' H H' → SR K φ' S' H' → Sl K φ' H' ρ' σ' → n' ρ' S' → n σ' H') : Lnk K W φ H { D' with nx := n' } { D with nx := n } :=
  ⟨h, l.rt, l.bk, l.ct, l.ex⟩
end
def DS (F : Fam) (W : WX) (st : Stmt) (t' : DTS) : Prop :=
  ∃ t : TS, (∀ i, PS (F.X i) st t) ∧ ∀ σ ρ φ S H D' D, SR F.K φ S H → Sl F.K φ H ρ σ → Lnk F.K W φ H D' D → t' D' ρ S → t D σ H
def DSs (F : Fam) (W : WX) (sts : List Stmt) (t' : DTS) : Prop :=
  ∃ t : TS, (∀ i, PSs (F.X i) sts t) ∧ ∀ σ ρ φ S H D' D, SR F.K φ S H → Sl F.K φ H ρ σ → Lnk F.K W φ H D' D → t' D' ρ S → t D σ H
section
variable {F : Fam} {W : WX} {a b c e : Expr} {es : List Expr} {st : Stmt} {rest sa sb : List Stmt} {pos : Pos} {te ta tb : DTE} {uC : DTT} {t : DTA} {u v w : DTS}
def dNext : DTS := fun D ρ S => D.nx ρ S
def dSeq (u v : DTS) : DTS := fun D ρ S => u { D with nx := v D } ρ S
theorem ds_nil : DSs F W [] dNext := ⟨_, fun _ => pss_nil, fun σ ρ φ S H D' D r sl l h => l.nx _ _ _ _ _ .refl r sl h⟩
theorem ds_cons (h1 : DS F W st u) (h2 : DSs F W rest v) : DSs F W (st :: rest) (dSeq u v) := by
  obtain ⟨t1, p1, k1⟩ := h1
  obtain ⟨t2, p2, k2⟩ := h2
  exact ⟨_, fun i => pss_cons (p1 i) (p2 i), fun σ ρ φ S H D' D r sl l h =>
    k1 σ ρ φ S H _ _ r sl (l.next fun φ1 H1 S1 ρ1 σ1 s r1 sl1 q => k2 σ1 ρ1 φ1 S1 H1 D' D r1 sl1 (l.mono s) q) h⟩
theorem ds_one (h : DS F W st u) : DSs F W [st] u := let ⟨t, p, k⟩ := h; ⟨t, fun i => pss_one (p i), k⟩
theorem ds_pass : DS F W (.Pass pos) dNext := ⟨_, fun _ => ps_pass, fun σ ρ φ S H D' D r sl l h => l.nx _ _ _ _ _ .refl r sl h⟩
theorem ds_break : DS F W (.Break pos) (fun D ρ S => D.bk ρ S) := ⟨_, fun _ => ps_break, fun σ ρ φ S H D' D r sl l h => l.bk _ _ _ _ _ .refl r sl h⟩
theorem ds_continue : DS F W (.Continue pos) (fun D ρ S => D.ct ρ S) := ⟨_, fun _ => ps_continue, fun σ ρ φ S H D' D r sl l h => l.ct _ _ _ _ _ .refl r sl h⟩
def dDrop (te : DTE) : DTS := fun D ρ S => te ρ S (fun _ S1 => D.nx ρ S1) (fun x S1 => D.ex x ρ S1)
theorem ds_expr (he : DE F W e te) (hs : ∀ i, swapsWith e none pos.line (F.X i).env = pure false := by intro _; rfl) : DS F W (.Expr e pos) (dDrop te) := by
  obtain ⟨t1, p1, k1⟩ := he
  exact ⟨_, fun i => ps_expr (p1 i) (hs i), fun σ ρ φ S H D' D r sl l h => k1 σ ρ φ S H _ _ _ (l.ok r sl) (fun φ1 H1 S1 d v s r1 rd q => l.nx _ _ _ _ _ s r1 (sl.mono s r.muts) q) h⟩
def dRet (te : DTE) : DTS := fun D ρ S => te ρ S D.rt (fun x S1 => D.ex x ρ S1)
theorem ds_ret (he : DE F W e te) : DS F W (.Return (some e) pos) (dRet te) := by
  obtain ⟨t1, p1, k1⟩ := he
  exact ⟨_, fun i => ps_ret (p1 i), fun σ ρ φ S H D' D r sl l h => k1 σ ρ φ S H _ _ _ (l.ok r sl) (fun φ1 H1 S1 d v s r1 rd q => l.rt _ _ _ _ _ s r1 rd q) h⟩
def dRetN : DTS := fun D _ S => D.rt .non S
theorem ds_retN : DS F W (.Return none pos) dRetN := ⟨_, fun _ => ps_retN, fun σ ρ φ S H D' D r sl l h => l.rt _ _ _ _ _ .refl r rd_non h⟩
def dIfS (t : DTT) (u v : DTS) : DTS := fun D ρ S => t ρ S (fun b S1 => if b = true then u D ρ S1 else v D ρ S1) (fun x S1 => D.ex x ρ S1)
theorem ds_if (hc : DT F W c uC) (ha : DSs F W sa u) (hb : DSs F W sb v) : DS F W (.If c sa sb pos) (dIfS uC u v) := by
  obtain ⟨t0, p0, k0⟩ := hc
  obtain ⟨t1, p1, k1⟩ := ha
  obtain ⟨t2, p2, k2⟩ := hb
  refine ⟨_, fun i => ps_if (p0 i) (p1 i) (p2 i), fun σ ρ φ S H D' D r sl l h => ?_⟩
  refine k0 σ ρ φ S H _ _ _ (l.ok r sl) (fun φ1 H1 S1 k s r1 q => ?_) h
  cases k with
  | false => rw [if_neg Bool.false_ne_true] at q ⊢; exact k2 σ ρ φ1 S1 H1 D' D r1 (sl.mono s r.muts) (l.mono s) q
  | true => rw [if_pos rfl] at q ⊢; exact k1 σ ρ φ1 S1 H1 D' D r1 (sl.mono s r.muts) (l.mono s) q

/-! ### targets, assignments -/
abbrev DTG := D → Rho → Store → (Rho → Store → Prop) → Prop
abbrev DTGs := List D → Rho → Store → (Rho → Store → Prop) → Prop
def EndG (K : PySem.W.Frag) (φ : Al) (H : Hp) (Q' : Rho → Store → Prop) (Q : L2.St → Hp → Prop) : Prop := ∀ φ' H' S' ρ' σ', Step φ φ' H H' → SR K φ' S' H' → Sl K φ' H' ρ' σ' → Q' ρ' S' → Q σ' H'
def DG (F : Fam) (target : Expr) (t' : DTG) : Prop :=
  ∃ t : TG, (∀ i, PG (F.X i) target t) ∧ ∀ σ ρ φ S H d v Q' Q, SR F.K φ S H → Sl F.K φ H ρ σ → RD F.K φ H d v → EndG F.K φ H Q' Q → t' d ρ S Q' → t v σ H Q
def DGs (F : Fam) (ts : List Expr) (t' : DTGs) : Prop :=
  ∃ t : TGs, (∀ i, PGs (F.X i) ts t) ∧ ∀ σ ρ φ S H ds vs Q' Q, SR F.K φ S H → Sl F.K φ H ρ σ → RDs F.K φ H ds vs → EndG F.K φ H Q' Q → t' ds ρ S Q' → t vs σ H Q
def eName (i : Nat) : DTG := fun d ρ S Q => Q (ρ.set i (some d)) S
theorem dg_name (i : Nat) {x : Str} (hN : ∀ j, (F.X j).N.Nodup) (hi : ∀ j, (F.X j).N[i]? = some x := by intro _; rfl) (hx : ∀ j, Loc (F.X j).env.scope x := by intro _; first | exact Or.inl rfl | exact Or.inr rfl) (hf : ∀ j, (F.X j).fn x = true ∨ (F.X j).env.scope.names.lookup x = some .local := by intro _; first | exact .inl rfl | exact .inr rfl) : DG F (.Name x pos) (eName i) :=
  ⟨_, fun j => pg_name (hN j) (hi j) (hx j) (hf j), fun σ ρ φ S H d v Q' Q r sl rd q h => q _ _ _ _ _ .refl r (sl.set rd) h⟩
def eNil : DTGs := fun ds ρ S Q => ds = [] ∧ Q ρ S
def eCons (t : DTG) (u : DTGs) : DTGs := fun ds ρ S Q => ∃ d r, ds = d :: r ∧ t d ρ S fun ρ1 S1 => u r ρ1 S1 Q
theorem dgs_nil : DGs F [] eNil := by
  refine ⟨_, fun _ => pgs_nil, fun σ ρ φ S H ds vs Q' Q r sl rd q h => ?_⟩
  obtain ⟨rfl, h⟩ := h
  rw [RDs] at rd
  exact ⟨rd, q _ _ _ _ _ .refl r sl h⟩
theorem dgs_cons {t : DTG} {u : DTGs} (h1 : DG F e t) (h2 : DGs F es u) (hs : ∀ i, (assignEach (e :: es) (F.X i).env).map (·.2) = assign e (F.X i).env :: (assignEach es (F.X i).env).map (·.2) := by intro _; rfl) : DGs F (e :: es) (eCons t u) := by
  obtain ⟨t1, p1, k1⟩ := h1
  obtain ⟨t2, p2, k2⟩ := h2
  refine ⟨_, fun i => pgs_cons (p1 i) (p2 i) (hs i), fun σ ρ φ S H ds vs Q' Q r sl rd q h => ?_⟩
  obtain ⟨d, ds', rfl, h⟩ := h
  rw [RDs] at rd
  obtain ⟨v, vs', rfl, rd1, rd2⟩ := rd
  refine ⟨v, vs', rfl, k1 σ ρ φ S H d v _ _ r sl rd1 (fun φ1 H1 S1 ρ1 σ1 s r1 sl1 h1 => ?_) h⟩
  exact k2 σ1 ρ1 φ1 S1 H1 ds' vs' _ _ r1 sl1 (RDs.mono s r.muts _ _ rd2) (fun _ _ _ _ _ s2 r2 sl2 h2 => q _ _ _ _ _ (s.trans s2) r2 sl2 h2) h1
def eTup (n : Nat) (t : DTGs) : DTG := fun d ρ S Q => ∃ xs, d = .tup xs ∧ xs.length = n ∧ t xs ρ S Q
theorem dg_tup {k : Nat} {t : DTGs} {n : Nat} (hc : ∀ i, (F.X i).calm = true) (h : DGs F es t)
    (hn : ∀ i, (assignEach es (F.X i).env).length = n := by intro _; rfl) (hst : ∀ i, (assignEach es (F.X i).env).findIdx? (·.1) = none := by intro _; rfl) : DG F (.Tuple es k pos) (eTup n t) := by
  obtain ⟨t1, p1, k1⟩ := h
  refine ⟨_, fun i => F.hK i ▸ pg_tup (hc i) (p1 i) (hn i) (hst i), fun σ ρ φ S H d v Q' Q r sl rd q h => ?_⟩
  obtain ⟨xs, rfl, hl, h⟩ := h
  obtain ⟨a, vs, rfl, h1, h2⟩ := rd_tup rd
  exact ⟨a, vs, rfl, h1, by rw [h2.length]; exact hl, k1 σ ρ φ S H xs vs _ _ r sl h2 q h⟩
def dAsg (te : DTE) (g : DTG) : DTS := fun D ρ S => te ρ S (fun d S1 => g d ρ S1 D.nx) (fun x S1 => D.ex x ρ S1)
theorem ds_asg {tg : Expr} {g : DTG} (he : DE F W e te) (hg : DG F tg g) (hs : ∀ i, swapsWithSole [tg] e pos.line (F.X i).env = pure false := by intro _; rfl) (hw : ∀ i, swappedStores [tg] e (F.X i).env = pure none := by intro _; rfl)
    (h1 : ∀ i, (assignEach [tg] (F.X i).env).map (·.2) = [assign tg (F.X i).env] := by intro _; rfl) : DS F W (.Assign [tg] e pos) (dAsg te g) := by
  obtain ⟨t1, p1, k1⟩ := he
  obtain ⟨t2, p2, k2⟩ := hg
  exact ⟨_, fun i => ps_asg (p1 i) (p2 i) (hs i) (hw i) (h1 i), fun σ ρ φ S H D' D r sl l h => k1 σ ρ φ S H _ _ _ (l.ok r sl) (fun φ1 H1 S1 d v s r1 rd q =>
    k2 σ ρ φ1 S1 H1 d v _ _ r1 (sl.mono s r.muts) rd (fun φ2 H2 S2 ρ2 σ2 s2 r2 sl2 q2 => l.nx _ _ _ _ _ (s.trans s2) r2 sl2 q2) q) h⟩
theorem ds_set (i : Nat) {x : Str} {pos' : Pos} (hN : ∀ j, (F.X j).N.Nodup) (he : DE F W e te) (hi : ∀ j, (F.X j).N[i]? = some x := by intro _; rfl) (hx : ∀ j, Loc (F.X j).env.scope x := by intro _; first | exact Or.inl rfl | exact Or.inr rfl) (hs : ∀ j, swapsWith e (some (.Name x pos')) pos.line (F.X j).env = pure false := by intro _; rfl) (hf : ∀ j, (F.X j).fn x = true ∨ (F.X j).env.scope.names.lookup x = some .local := by intro _; first | exact .inl rfl | exact .inr rfl) :
    DS F W (.Assign [.Name x pos'] e pos) (dAsg te (eName i)) := by
  obtain ⟨t1, p1, k1⟩ := he
  exact ⟨_, fun j => ps_set (hN j) (hi j) (hx j) (p1 j) (hs j) (hf j), fun σ ρ φ S H D' D r sl l h => k1 σ ρ φ S H _ _ _ (l.ok r sl) (fun φ1 H1 S1 d v s r1 rd q => l.nx _ _ _ _ _ s r1 ((sl.mono s r.muts).set rd) q) h⟩
/-- a, b = x, y with plain local names -/
def dPar (i j : Nat) (t : DTA) : DTS := fun D ρ S => t ρ S (fun ds S1 => ∃ d c, ds = [d, c] ∧ D.nx ((ρ.set i (some d)).set j (some c)) S1) (fun x S1 => D.ex x ρ S1)
theorem ds_par (i j : Nat) {x y : Str} {px py pt : Pos} {kt k2 pt2} (hc : ∀ k, (F.X k).calm = true) (hN : ∀ k, (F.X k).N.Nodup) (ha : DA F W [a, b] t) (hi : ∀ k, (F.X k).N[i]? = some x := by intro _; rfl) (hj : ∀ k, (F.X k).N[j]? = some y := by intro _; rfl) (hij : i ≠ j := by decide)
    (hx : ∀ k, (F.X k).env.scope.names.lookup x = some .local := by intro _; rfl) (hy : ∀ k, (F.X k).env.scope.names.lookup y = some .local := by intro _; rfl)
    (hw : ∀ k, swappedStores [.Tuple [.Name x px, .Name y py] kt pt] (.Tuple [a, b] k2 pt2) (F.X k).env = pure (some [x, y]) := by intro _; rfl)
    (hs : ∀ k, swapsWithSole [.Tuple [.Name x px, .Name y py] kt pt] (.Tuple [a, b] k2 pt2) pos.line (F.X k).env = pure false := by intro _; rfl) :
    DS F W (.Assign [.Tuple [.Name x px, .Name y py] kt pt] (.Tuple [a, b] k2 pt2) pos) (dPar i j t) := by
  obtain ⟨t1, p1, k1⟩ := ha
  refine ⟨_, fun k => ps_par (hc k) (hN k) (hi k) (hj k) hij (hx k) (hy k) (p1 k) (hw k) (hs k), fun σ ρ φ S H D' D r sl l h => k1 σ ρ φ S H _ _ _ (l.ok r sl) (fun φ1 H1 S1 ds vs s r1 rd q => ?_) h⟩
  obtain ⟨d, c, rfl, q⟩ := q
  obtain ⟨v, w, rfl, h1, h2⟩ := rds2 rd
  exact ⟨v, w, rfl, l.nx _ _ _ _ _ s r1 (((sl.mono s r.muts).set h1).set h2) q⟩
/-- x op= e, x a name -/
def dAug (i : Nat) (te : DTE) (r : D2) : DTS := fun D ρ S => ∃ x, ρ[i]? = some (some x) ∧ te ρ S (fun d S1 => r x d S1 fun z S2 => D.nx (ρ.set i (some z)) S2) (fun x S1 => D.ex x ρ S1)
theorem ds_aug (i : Nat) {x : Str} {op : Operator} {r : R2} {r' : D2} {pos' : Pos} (hN : ∀ j, (F.X j).N.Nodup) (ho : ∀ j, OpR (F.X j) (inplaceOp op) r) (lk : Lk F.K r' r) (he : DE F W e te) (hi : ∀ j, (F.X j).N[i]? = some x := by intro _; rfl) (hx : ∀ j, Loc (F.X j).env.scope x := by intro _; first | exact Or.inl rfl | exact Or.inr rfl)
    (hf : ∀ j, (F.X j).fn x = true ∨ (F.X j).env.scope.names.lookup x = some .local := by intro _; first | exact .inl rfl | exact .inr rfl) : DS F W (.AugAssign (.Name x pos') op e pos) (dAug i te r') := by
  obtain ⟨t1, p1, k1⟩ := he
  refine ⟨_, fun j => ps_aug (ti := r) (hN j) (hi j) (hx j) (p1 j) (ho j) (hf j), fun σ ρ φ S H D' D r sl l h => ?_⟩
  obtain ⟨x, ex, h⟩ := h
  obtain ⟨v, ev, rx⟩ := sl.at_ i x ex
  refine ⟨v, ev, k1 σ ρ φ S H _ _ _ (l.ok r sl) (fun φ1 H1 S1 d w s r1 rd q => ?_) h⟩
  refine lk φ1 S1 H1 _ _ x d v w r1 (RD.mono s r.muts _ _ rx) rd (fun φ2 H2 S2 z u s2 r2 rz q2 => ?_) q
  exact l.nx _ _ _ _ _ (s.trans s2) r2 ((sl.mono (s.trans s2) r.muts).set rz) q2
/-- xs[i] = e, a list of the store -/
def dSetL (te to ti : DTE) : DTS := fun D ρ S => te ρ S (fun d S1 => to ρ S1 (fun o S2 => ti ρ S2 (fun i S3 => ∃ n xs k j, o = .ref n ∧ S3[n]? = some (.lst xs) ∧ i = .int k ∧ ixN xs.length k = some j ∧ D.nx ρ (S3.set n (.lst (xs.set j d))))
  (fun x S1 => D.ex x ρ S1)) (fun x S1 => D.ex x ρ S1)) (fun x S1 => D.ex x ρ S1)
theorem ds_setL {o i : Expr} {to ti : DTE} {p2 : Pos} (he : DE F W e te) (ho : DE F W o to) (hi : DE F W i ti) (hs : ∀ j, swapsWithSole [.Subscript o i p2] e pos.line (F.X j).env = pure false := by intro _; rfl) (hw : ∀ j, swappedStores [.Subscript o i p2] e (F.X j).env = pure none := by intro _; rfl)
    (h1 : ∀ j, (assignEach [.Subscript o i p2] (F.X j).env).map (·.2) = [assign (.Subscript o i p2) (F.X j).env] := by intro _; rfl)
    (ha : ∀ j v, assign (.Subscript o i p2) (F.X j).env v = (do
      let ov ← holding [v] (eval o (F.X j).env)
      let iv ← holding [v, ov] (eval i (F.X j).env)
      standAt p2
      holding [v, ov, iv] (setItem ov iv v)
      release [v, ov, iv] []) := by intro _ _; rfl) : DS F W (.Assign [.Subscript o i p2] e pos) (dSetL te to ti) := by
  obtain ⟨t1, p1, k1⟩ := he
  obtain ⟨t2, q2, k2⟩ := ho
  obtain ⟨t3, p3, k3⟩ := hi
  refine ⟨_, fun j => ps_asg (p1 j) (pg_sub (q2 j) (p3 j) set_list (ha j)) (hs j) (hw j) (h1 j), fun σ ρ φ S H D' D r sl l h => ?_⟩
  have o0 := l.ok r sl
  refine k1 σ ρ φ S H _ _ _ o0 (fun φ1 H1 S1 d v s1 r1 rd h1 => ?_) h
  refine k2 σ ρ φ1 S1 H1 _ _ _ (o0.mono s1 r1) (fun φ2 H2 S2 od ov s2 r2 ro h2 => ?_) h1
  refine k3 σ ρ φ2 S2 H2 _ _ _ (o0.mono (s1.trans s2) r2) (fun φ3 H3 S3 i iv s3 r3 ri h3 => ?_) h2
  obtain ⟨n, xs, k, j, rfl, e1, rfl, e2, q⟩ := h3
  obtain ⟨a, vs, e3, ha, e4, rs⟩ := r3.lst (RD.mono s3 r2.muts _ _ ro) e1
  rw [RD] at ri
  refine ⟨a, vs, k, j, e3, ri, e4, by rw [rs.length]; exact e2, ?_⟩
  have st := r3.step_put (ho := .lst (vs.set j v)) ha
  refine l.nx _ _ _ _ _ (((s1.trans s2).trans s3).trans st) (r3.put (o := .lst (xs.set j d)) ha ⟨_, upd_same, ?_⟩) (sl.mono (((s1.trans s2).trans s3).trans st) r.muts) q
  exact RDs.mono st r3.muts _ _ (rs.set j (RD.mono (s2.trans s3) r1.muts _ _ rd))

/-! ### what is walked -/
/-- J walks the items xs while live holds of the store -/
def WalkD (K : PySem.W.Frag) (J : It) (xs : List D) (live : Store → Prop) (φ : Al) (H : Hp) : Prop :=
  ∀ φ2 H2 S2 i, Step φ φ2 H H2 → SR K φ2 S2 H2 → live S2 → (xs.length = i → J.stop i H2) ∧
    (i < xs.length → J.go i H2 ∧ ∀ v H3, J.yld i H2 v H3 → ∃ d, xs[i]? = some d ∧ Step φ2 φ2 H2 H3 ∧ SR K φ2 S2 H3 ∧ RD K φ2 H3 d v)
abbrev DTI := Rho → Store → (List D → (Store → Prop) → Store → Prop) → XQ → Prop
def DI (F : Fam) (W : WX) (tg iter : Expr) (t' : DTI) : Prop :=
  ∃ wi : TI, (∀ i, PI (F.X i) tg iter wi) ∧ ∀ σ ρ φ S H E R' R, Ok F.K W σ ρ φ S H E → (∀ φ1 H1 S1 xs live J, Step φ φ1 H H1 → SR F.K φ1 S1 H1 → WalkD F.K J xs live φ1 H1 → R' xs live S1 → R J H1) → t' ρ S R' E → wi σ H R
def iSq (K : PySem.W.Frag) (tl : TE) : TI := fun σ H R => tl σ H fun x H1 => ∃ a, x = .ref a ∧ (((∃ xs, SqL K H1 a xs) ∧ R (Itl K a) H1) ∨ ((∃ xs, SqT K H1 a xs) ∧ R (Itt K a) H1))
theorem pi_sq {X : Cx} {tg l : Expr} {tl : TE} (hl : PE X l tl) : PI X tg l (iSq X.K tl) := by
  refine ⟨fun pins s σ H R I h => ?_⟩
  refine thn (hl.run pins s σ H _ I h) fun v s1 ⟨x, H1, I1, r1, q1⟩ => ?_
  obtain ⟨a, e, q⟩ := q1
  subst e
  cases r1
  rcases q with ⟨⟨xs, hq⟩, q⟩ | ⟨⟨xs, hq⟩, q⟩
  · obtain ⟨its, rv, p, hz⟩ := I1.list hq
    refine wpAny_pyIter_list p.isList ?_
    refine ⟨s1.heap.objs.size, [s1.heap.objs.size], _, _, H1, rfl, I1.kept (t' := s1.toks) fun b o e => Heap.get?_push_of_some _ e, turn_list a _, ⟨_, Heap.get?_push_size _ rfl, rfl, rfl⟩, fun b hb => ?_, q⟩
    have e : b = s1.heap.objs.size := by simpa using hb
    subst e
    exact I1.fpOk (Nat.le_refl _) (I1.hok.fresh (Nat.le_refl _))
  · obtain ⟨its, rv, p, hz⟩ := I1.tuple hq
    refine wpAny_pyIter_tuple (show s1.heap.IsTuple a its.toArray from p) ?_
    refine ⟨s1.heap.objs.size, [s1.heap.objs.size], _, _, H1, rfl, I1.kept (t' := s1.toks) fun b o e => Heap.get?_push_of_some _ e, turn_tuple a _, ⟨_, Heap.get?_push_size _ rfl, rfl, rfl⟩, fun b hb => ?_, q⟩
    have e : b = s1.heap.objs.size := by simpa using hb
    subst e
    exact I1.fpOk (Nat.le_refl _) (I1.hok.fresh (Nat.le_refl _))
/-- over a list or a tuple that stands while it is walked -/
def jSq (te : DTE) : DTI := fun ρ S R E => te ρ S (fun d S1 => ∃ xs, sqOf S1 d = some xs ∧ R xs (fun S => sqOf S d = some xs) S1) E
theorem di_sq {tg : Expr} (he : DE F W e te) : DI F W tg e (jSq te) := by
  obtain ⟨t1, p1, k1⟩ := he
  refine ⟨_, fun i => F.hK i ▸ pi_sq (p1 i), fun σ ρ φ S H E R' R o q h => ?_⟩
  refine k1 σ ρ φ S H E _ _ o (fun φ1 H1 S1 d v s1 r1 rd h1 => ?_) h
  obtain ⟨xs, e1, h1⟩ := h1
  by_cases ht : ∃ ys, d = .tup ys
  · obtain ⟨ys, rfl⟩ := ht
    cases e1
    obtain ⟨a, vs, rfl, hq, rs⟩ := rd_tup rd
    refine ⟨a, rfl, .inr ⟨⟨_, hq⟩, q φ1 H1 S1 _ _ _ s1 r1 (fun φ2 H2 S2 i s r lv => ?_) h1⟩⟩
    have hq2 := s.w.sqT r1.muts.m r1.muts.b hq
    have rs2 := RDs.mono s r1.muts _ _ rs
    refine ⟨fun hi => ⟨vs, hq2, by rw [rs.length]; exact Nat.le_of_eq hi⟩, fun hi => ?_⟩
    obtain ⟨v, ev, rv⟩ := rs2.get (List.getElem?_eq_getElem hi)
    exact ⟨⟨vs, v, hq2, ev⟩, fun u H3 hy => ⟨_, List.getElem?_eq_getElem hi, by rw [hy.1]; exact .refl, by rw [hy.1]; exact r, by
      have := hy.2 vs hq2
      rw [ev] at this; cases this
      rw [hy.1]; exact rv⟩⟩
  · have e1' : lsOf S1 d = some xs := by
      cases d <;> first | exact e1 | exact absurd ⟨_, rfl⟩ ht
    obtain ⟨a, vs, rfl, hq, rs⟩ := ls_of r1 rd e1'
    refine ⟨a, rfl, .inl ⟨⟨_, hq⟩, q φ1 H1 S1 _ _ _ s1 r1 (fun φ2 H2 S2 i s r lv => ?_) h1⟩⟩
    have lv' : lsOf S2 d = some xs := by
      cases d <;> first | exact lv | exact absurd ⟨_, rfl⟩ ht
    obtain ⟨b, ws, eb, hq2, rs2⟩ := ls_of r (RD.mono s r1.muts _ _ rd) lv'
    cases eb
    refine ⟨fun hi => ⟨ws, hq2, by rw [rs2.length]; exact Nat.le_of_eq hi⟩, fun hi => ?_⟩
    obtain ⟨v, ev, rv⟩ := rs2.get (List.getElem?_eq_getElem hi)
    exact ⟨⟨ws, v, hq2, ev⟩, fun u H3 hy => ⟨_, List.getElem?_eq_getElem hi, by rw [hy.1]; exact .refl, by rw [hy.1]; exact r, by
      have := hy.2 ws hq2
      rw [ev] at this; cases this
      rw [hy.1]; exact rv⟩⟩
def rngD (lo : Int) (n : Nat) : List D := (List.range n).map fun (k : Nat) => D.int (lo + (k : Int))
theorem rngD_length (lo : Int) (n : Nat) : (rngD lo n).length = n := by simp [rngD]
theorem rngD_get {lo : Int} {n i : Nat} (h : i < n) : (rngD lo n)[i]? = some (.int (lo + (i : Int))) := by
  unfold rngD
  rw [List.getElem?_map, List.getElem?_range h]; rfl
def jRng1 (t : DTA) : DTI := fun ρ S R E => t ρ S (fun ds S1 => ∃ j : Int, ds = [.int j] ∧ -(2 ^ 62) ≤ j ∧ j < 2 ^ 62 ∧ R (rngD 0 j.toNat) (fun _ => True) S1) E
def jRng2 (t : DTA) : DTI := fun ρ S R E => t ρ S (fun ds S1 => ∃ i j : Int, ds = [.int i, .int j] ∧ (-(2 ^ 62) ≤ i ∧ i < 2 ^ 62 ∧ -(2 ^ 62) ≤ j ∧ j < 2 ^ 62) ∧ R (rngD i (j - i).toNat) (fun _ => True) S1) E
theorem walk_rng {K : PySem.W.Frag} {lo : Int} {n : Nat} {φ : Al} {H : Hp} : WalkD K (Itr lo n) (rngD lo n) (fun _ => True) φ H := fun φ2 H2 S2 i s r _ =>
  ⟨fun hi => by rw [rngD_length] at hi; exact Nat.le_of_eq hi, fun hi => by
    rw [rngD_length] at hi
    exact ⟨hi, fun v H3 hy => ⟨_, rngD_get hi, by rw [hy.1]; exact .refl, by rw [hy.1]; exact r, by rw [RD]; exact hy.2⟩⟩⟩
theorem di_rng1 {tg : Expr} {p : Pos} (hg : ∀ i, Gl (F.X i) "range") (hm : ∀ i, (F.X i).mg "range" = none) (ha : DA F W [a] t) (hs : ∀ i, starEach [a] (F.X i).env = [(false, eval a (F.X i).env)] := by intro _; rfl) : DI F W tg (.Call (.Name "range" p) [a] [] pos) (jRng1 t) := by
  obtain ⟨t1, p1, k1⟩ := ha
  refine ⟨_, fun i => pi_range1 (hg i) (hm i) (p1 i) (hs i), fun σ ρ φ S H E R' R o q h => ?_⟩
  refine k1 σ ρ φ S H E _ _ o (fun φ1 H1 S1 ds vs s1 r1 rd h1 => ?_) h
  obtain ⟨j, rfl, b1, b2, h1⟩ := h1
  obtain ⟨v, rfl, hv⟩ := rds1 rd
  rw [RD] at hv
  subst hv
  exact ⟨j, rfl, b1, b2, q φ1 H1 S1 _ _ _ s1 r1 walk_rng h1⟩
theorem di_rng2 {tg : Expr} {p : Pos} (hg : ∀ i, Gl (F.X i) "range") (hm : ∀ i, (F.X i).mg "range" = none) (ha : DA F W [a, b] t) (hs : ∀ i, starEach [a, b] (F.X i).env = [(false, eval a (F.X i).env), (false, eval b (F.X i).env)] := by intro _; rfl) (hs2 : ∀ i, starEach [b] (F.X i).env = [(false, eval b (F.X i).env)] := by intro _; rfl) :
    DI F W tg (.Call (.Name "range" p) [a, b] [] pos) (jRng2 t) := by
  obtain ⟨t1, p1, k1⟩ := ha
  refine ⟨_, fun i => pi_range2 (hg i) (hm i) (p1 i) (hs i) (hs2 i), fun σ ρ φ S H E R' R o q h => ?_⟩
  refine k1 σ ρ φ S H E _ _ o (fun φ1 H1 S1 ds vs s1 r1 rd h1 => ?_) h
  obtain ⟨i, j, rfl, b1, h1⟩ := h1
  obtain ⟨v, w, rfl, hv, hw⟩ := rds2 rd
  rw [RD] at hv hw
  subst hv hw
  exact ⟨i, j, rfl, b1, q φ1 H1 S1 _ _ _ s1 r1 walk_rng h1⟩

/-! ### for -/
def dFor (ti : DTI) (g : DTG) (tb : DTS) : DTS := fun D ρ S => ti ρ S (fun xs live S1 => ∃ Pv : Nat → Rho → Store → Prop, Pv 0 ρ S1 ∧ (∀ i ρ S, i ≤ xs.length → Pv i ρ S → live S) ∧
  (∀ i x ρ S, xs[i]? = some x → Pv i ρ S → g x ρ S fun ρ2 S2 => tb { D with nx := Pv (i + 1), ct := Pv (i + 1), bk := D.nx } ρ2 S2) ∧ ∀ ρ S, Pv xs.length ρ S → D.nx ρ S) (fun x S1 => D.ex x ρ S1)
theorem ds_for {tg iter : Expr} {body : List Stmt} {ti : DTI} {g : DTG} {tb : DTS} (hp : ∀ j, PassesOwn (model (F.X j).prog (F.X j).w) (F.X j).A (F.X j).env (F.X j).xe) (hc : ∀ j, (F.X j).calm = true) (hi : DI F W tg iter ti) (hg : DG F tg g) (hb : DSs F W body tb)
    (hs : ∀ j x, foldedSetIterable iter (F.X j).env x = pure x := by intro _ _; rfl) : DS F W (.For tg iter body [] pos) (dFor ti g tb) := by
  obtain ⟨t1, p1, k1⟩ := hi
  obtain ⟨t2, p2, k2⟩ := hg
  obtain ⟨t3, p3, k3⟩ := hb
  refine ⟨_, fun j => ps_for (hp j) (hc j) (p1 j) (p2 j) (p3 j) (hs j), fun σ ρ φ S H D' D r sl l h => ?_⟩
  refine k1 σ ρ φ S H _ _ _ (l.ok r sl) (fun φ1 H1 S1 xs live J s1 r1 wk h1 => ?_) h
  obtain ⟨Pv, h0, hl, hs, hd⟩ := h1
  refine ⟨fun i m σ' H' => ∃ φ' S' ρ', Step φ1 φ' H1 H' ∧ SR F.K φ' S' H' ∧ Sl F.K φ' H' ρ' σ' ∧ Pv i ρ' S' ∧ i ≤ xs.length ∧ m = xs.length - i,
    ⟨_, φ1, S1, ρ, .refl, r1, sl.mono s1 r.muts, h0, Nat.zero_le _, rfl⟩, ?_⟩
  rintro i m σ' H' ⟨φ', S', ρ', s', r', sl', hP, hi, rfl⟩
  obtain ⟨w1, w2⟩ := wk φ' H' S' i s' r' (hl i ρ' S' hi hP)
  by_cases hlt : i < xs.length
  · obtain ⟨go, hy⟩ := w2 hlt
    refine .inr ⟨go, fun σ2 H2 => ∃ φ2 S2 ρ2, Step φ1 φ2 H1 H2 ∧ SR F.K φ2 S2 H2 ∧ Sl F.K φ2 H2 ρ2 σ2 ∧ Pv (i + 1) ρ2 S2, ?_, ?_⟩
    · rintro σ2 H2 ⟨φ2, S2, ρ2, a1, a2, a3, a4⟩
      exact ⟨xs.length - (i + 1), by omega, φ2, S2, ρ2, a1, a2, a3, a4, hlt, rfl⟩
    · intro v H3 yv
      obtain ⟨d, ed, s3, r3, rd⟩ := hy v H3 yv
      refine k2 σ' ρ' φ' S' H3 d v _ _ r3 (sl'.mono s3 r'.muts) rd (fun φ4 H4 S4 ρ4 σ4 s4 r4 sl4 h4 => ?_) (hs i d ρ' S' ed hP)
      have s14 : Step φ1 φ4 H1 H4 := (s'.trans s3).trans s4
      refine k3 σ4 ρ4 φ4 S4 H4 _ _ r4 sl4 ?_ h4
      have l4 := l.mono (s1.trans s14)
      exact ⟨fun φ5 H5 S5 ρ5 σ5 s5 r5 sl5 q => ⟨φ5, S5, ρ5, s14.trans s5, r5, sl5, q⟩, l4.rt, l4.nx, fun φ5 H5 S5 ρ5 σ5 s5 r5 sl5 q => ⟨φ5, S5, ρ5, s14.trans s5, r5, sl5, q⟩, l4.ex⟩
  · have e : i = xs.length := by omega
    subst e
    exact .inl ⟨w1 rfl, l.nx _ _ _ _ _ (s1.trans s') r' sl' (hd ρ' S' hP)⟩

/-! ### list comprehensions -/
def wipeD (ρ : Rho) : List Nat → Rho
  | [] => ρ
  | v :: vs => (wipeD ρ vs).set v none
theorem Sl.wipe {K : PySem.W.Frag} {φ : Al} {H : Hp} {ρ : Rho} {σ : L2.St} (l : Sl K φ H ρ σ) : ∀ vs : List Nat, Sl K φ H (wipeD ρ vs) (wipe σ vs)
  | [] => l
  | v :: vs => (Sl.wipe l vs).unset
end
end Dy
namespace Dy
open PySem PySem.Spec PyProof.Rows L2

/-! ### list comprehensions -/
abbrev W0 : WX := fun _ _ _ _ => False
abbrev noX : XQ := fun _ _ => False
def Fam.blk (F : Fam) (scope : Scope) : Fam :=
  ⟨F.ι × Shared × Hp × Addr × List (Str × Addr) × List Addr, fun j => (F.X j.1).blk j.2.1 j.2.2.1 scope (compEnvC scope j.2.2.2.2.1 j.2.2.2.1 (F.X j.1).env) j.2.2.2.2.2, F.K, fun j => F.hK j.1⟩
def DTs (F : Fam) (W : WX) (ifs : List Expr) (t' : DTT) : Prop :=
  ∃ t : TT, (∀ i, PTs (F.X i) ifs t) ∧ ∀ σ ρ φ S H E Q' Q, Ok F.K W σ ρ φ S H E → EndT F.K φ H Q' Q → t' ρ S Q' E → t σ H Q
def dYes : DTT := fun _ S Q _ => Q true S
section
variable {F : Fam} {W : WX} {a b c e : Expr} {es : List Expr} {st : Stmt} {rest sa sb : List Stmt} {pos : Pos} {te ta tb : DTE} {tt uC : DTT} {t : DTA} {ti : DTI}
theorem dts_nil : DTs F W [] dYes := ⟨_, fun _ => pts_nil, fun σ ρ φ S H E Q' Q o q h => q _ _ _ _ .refl o.sr h⟩
theorem dts_one (h : DT F W c tt) : DTs F W [c] tt := let ⟨t, p, k⟩ := h; ⟨t, fun i => pts_one (p i), k⟩
/-- what a comprehension does: G puts an item into the slots, or is not defined; K makes the end of the items -/
def dLc (ti : DTI) (g : D → Rho → (Rho → Prop) → Prop) (tt : DTT) (te : DTE) : DTE := fun ρ S Q E => ti ρ S (fun xs live S1 => ∃ Pv : Nat → List D → Store → Prop, Pv 0 [] S1 ∧ (∀ k acc S, k ≤ xs.length → Pv k acc S → live S) ∧
  (∀ k x acc S, xs[k]? = some x → Pv k acc S → g x ρ fun ρ2 => tt ρ2 S (fun b S2 => if b = true then te ρ2 S2 (fun y S3 => acc.length < sizeLine ∧ Pv (k + 1) (acc ++ [y]) S3) noX else Pv (k + 1) acc S2) noX) ∧
  ∀ acc S, Pv xs.length acc S → Q (.lst acc) S) E
/-- .. a list of the store -/
def dLcN (ti : DTI) (g : D → Rho → (Rho → Prop) → Prop) (tt : DTT) (te : DTE) : DTE := fun ρ S Q E => dLc ti g tt te ρ S (fun d S1 => ∃ xs, d = .lst xs ∧ Q (.ref S1.length) (S1 ++ [.lst xs])) E
def c1 (i : Nat) : D → Rho → (Rho → Prop) → Prop := fun x ρ Q => Q (ρ.set i (some x))
def c2 (i j : Nat) : D → Rho → (Rho → Prop) → Prop := fun x ρ Q => ∃ u v, x = .tup [u, v] ∧ Q ((ρ.set i (some u)).set j (some v))
def c3 (i j k : Nat) : D → Rho → (Rho → Prop) → Prop := fun x ρ Q => ∃ u v w, x = .tup [u, v, w] ∧ Q (((ρ.set i (some u)).set j (some v)).set k (some w))
/-- the target's store by values and by trees -/
def TgL (K : PySem.W.Frag) (g : TG) (g' : D → Rho → (Rho → Prop) → Prop) (vs : List Nat) : Prop :=
  ∀ φ S H σ ρ d v (Q' : Rho → Prop) (Q : L2.St → Hp → Prop), SR K φ S H → Sl K φ H ρ σ → RD K φ H d v → g' d ρ Q' → (∀ ρ2 σ2, Sl K φ H ρ2 σ2 → Q' ρ2 → Q σ2 H) → g v (wipe σ vs) H fun σ2 H2 => wipe σ2 vs = wipe σ vs ∧ Q σ2 H2
theorem tgl_1 {K : PySem.W.Frag} (i : Nat) : TgL K (gName i) (c1 i) [i] := by
  intro φ S H σ ρ d v Q' Q r sl rd h k
  have e : (wipe σ [i]).set i (some v) = σ.set i (some v) := by simp [wipe, List.set_set]
  refine ⟨by rw [e]; simp [wipe, List.set_set], ?_⟩
  rw [e]
  exact k _ _ (sl.set rd) h
theorem tgl_2 {K : PySem.W.Frag} {i j : Nat} (hij : i ≠ j) : TgL K (gTup K 2 (gCons (gName i) (gCons (gName j) gNil))) (c2 i j) [i, j] := by
  rintro φ S H σ ρ d v Q' Q r sl rd ⟨u1, u2, rfl, h⟩ k
  obtain ⟨a, vs, rfl, h1, h2⟩ := rd_tup rd
  obtain ⟨x, y, rfl, hx, hy⟩ := rds2 h2
  have e : ((wipe σ [i, j]).set i (some x)).set j (some y) = (σ.set i (some x)).set j (some y) := by
    show ((((σ.set j none).set i none).set i (some x)).set j (some y)) = _
    rw [List.set_set, List.set_comm _ _ hij, List.set_set, List.set_comm _ _ (Ne.symm hij)]
  refine ⟨a, [x, y], rfl, h1, rfl, x, [y], rfl, y, [], rfl, rfl, ?_, ?_⟩
  · rw [e]
    show ((((σ.set i (some x)).set j (some y)).set j none).set i none) = (σ.set j none).set i none
    rw [List.set_set, List.set_comm _ _ hij, List.set_set]
  · rw [e]
    exact k _ _ ((sl.set hx).set hy) h
theorem lc_core' {K : PySem.W.Frag} {wi : TI} {g : TG} {g' : D → Rho → (Rho → Prop) → Prop} {tt0 : TT} {te0 : TE} {vs : List Nat} (hg : TgL K g g' vs)
    (k1 : ∀ σ ρ φ S H E R' R, Ok K W σ ρ φ S H E → (∀ φ1 H1 S1 xs live J, Step φ φ1 H H1 → SR K φ1 S1 H1 → WalkD K J xs live φ1 H1 → R' xs live S1 → R J H1) → ti ρ S R' E → wi σ H R)
    (k2 : ∀ σ ρ φ S H E Q' Q, Ok K W0 σ ρ φ S H E → EndT K φ H Q' Q → tt ρ S Q' E → tt0 σ H Q)
    (k3 : ∀ σ ρ φ S H E Q' Q, Ok K W0 σ ρ φ S H E → EndV K φ H Q' Q → te ρ S Q' E → te0 σ H Q)
    (σ : L2.St) (ρ : Rho) (φ : Al) (S : Store) (H : Hp) (E : XQ) (Q' : QD) (Q : VK) (o : Ok K W σ ρ φ S H E) (h : dLc ti g' tt te ρ S Q' E)
    (fin : ∀ φ1 H1 S1 φ' S' H' D acc ws, Step φ φ1 H H1 → SR K φ1 S1 H1 → H1 D = none → Step φ1 φ' H1 H' → D ∈ φ'.b → SR K φ' S' H' → H' D = some (.lst ws) → RDs K φ' H' acc ws → Q' (.lst acc) S' → Q (.ref D) H') : tLc wi g tt0 te0 vs σ H Q := by
  refine k1 σ ρ φ S H E _ _ o (fun φ1 H1 S1 xs live J s1 r1 wk h1 => ?_) h
  obtain ⟨Pv, h0, hl, hs, hd⟩ := h1
  intro D hD
  -- the list that is being made
  let ψ : Al := ⟨φ1.l, D :: φ1.b⟩
  have st0 : Step φ1 ψ H1 (upd H1 D (.lst [])) := ⟨⟨[], by simp [ψ]⟩, fun a m n _ => by
    rcases List.mem_cons.mp m with m | m
    · rw [m]; exact hD
    · exact absurd m n, fun a m => List.mem_cons_of_mem _ m, fun a o e _ => by
    have : a ≠ D := fun z => by rw [z, hD] at e; cases e
    rw [upd_ne this]; exact e, fun a m n => absurd m n⟩
  have rb : SR K ψ S1 (upd H1 D (.lst [])) := ⟨r1.nd, r1.len, fun n a o ha ho => (r1.at_ n a o ha ho).moved st0.w r1.muts (upd_ne fun z => by
      have m := r1.mutl a (List.mem_of_getElem? ha)
      rw [z, hD] at m; exact m), fun a m => by
      rcases List.mem_cons.mp m with m | m
      · rw [m]; exact .inl ⟨[], upd_same⟩
      · rcases r1.mb a m with ⟨ys, e⟩ | ⟨ys, e⟩
        · have : a ≠ D := fun z => by rw [z, hD] at e; cases e
          exact .inl ⟨ys, by rw [upd_ne this]; exact e⟩
        · have : a ≠ D := fun z => by rw [z, hD] at e; cases e
          exact .inr ⟨ys, by rw [upd_ne this]; exact e⟩, fun a m => by
      rcases List.mem_cons.mp m with m | m
      · rw [m]; exact r1.out hD
      · exact r1.db a m⟩
  refine ⟨fun k m H' => ∃ φ' S' acc ws, Step φ1 φ' H1 H' ∧ D ∈ φ'.b ∧ SR K φ' S' H' ∧ Sl K φ' H' ρ σ ∧ H' D = some (.lst ws) ∧ RDs K φ' H' acc ws ∧ Pv k acc S' ∧ k ≤ xs.length ∧ m = xs.length - k,
    ⟨_, ψ, S1, [], [], st0, List.mem_cons_self, rb, (o.sl.mono s1 o.sr.muts).mono st0 r1.muts, upd_same, .nil, h0, Nat.zero_le _, rfl⟩, ?_⟩
  rintro k m H' ⟨φ', S', acc, ws, s', mD, r', sl', hDl, hacc, hP, hk, rfl⟩
  obtain ⟨w1, w2⟩ := wk φ' H' S' k s' r' (hl k acc S' hk hP)
  have nD : D ∉ φ'.l := r'.db D mD
  by_cases hlt : k < xs.length
  · obtain ⟨go, hy⟩ := w2 hlt
    refine .inr ⟨go, fun H2 => ∃ φ2 S2 acc2 ws2, Step φ1 φ2 H1 H2 ∧ D ∈ φ2.b ∧ SR K φ2 S2 H2 ∧ Sl K φ2 H2 ρ σ ∧ H2 D = some (.lst ws2) ∧ RDs K φ2 H2 acc2 ws2 ∧ Pv (k + 1) acc2 S2, ?_, ?_⟩
    · rintro H2 ⟨φ2, S2, acc2, ws2, a1, a2, a3, a4, a5, a6, a7⟩
      exact ⟨xs.length - (k + 1), by omega, φ2, S2, acc2, ws2, a1, a2, a3, a4, a5, a6, a7, hlt, rfl⟩
    · intro v H3 yv
      obtain ⟨d, ed, s3, r3, rd⟩ := hy v H3 yv
      refine hg φ' S' H3 σ ρ d v _ _ r3 (sl'.mono s3 r'.muts) rd (hs k d acc S' ed hP) (fun ρ2 σ2 sl2 h2 => ?_)
      have o3 : Ok K W0 σ2 ρ2 φ' S' H3 noX := ⟨r3, sl2, fun _ _ _ _ _ _ _ _ _ z => z.elim⟩
      refine k2 σ2 ρ2 φ' S' H3 noX _ _ o3 (fun φ4 H4 S4 b s4 r4 h4 => ?_) h2
      have s34 : Step φ' φ4 H' H4 := s3.trans s4
      cases b with
      | false =>
        rw [if_neg Bool.false_ne_true] at h4 ⊢
        exact ⟨φ4, S4, acc, ws, s'.trans s34, s34.sub D mD, r4, sl'.mono s34 r'.muts, s34.keep D _ hDl nD, RDs.mono s34 r'.muts _ _ hacc, h4⟩
      | true =>
        rw [if_pos rfl] at h4 ⊢
        refine k3 σ2 ρ2 φ4 S4 H4 noX _ _ (o3.mono s4 r4) (fun φ5 H5 S5 y u s5 r5 ry h5 => ?_) h4
        obtain ⟨hz, h6⟩ := h5
        have s35 : Step φ' φ5 H' H5 := s34.trans s5
        have m5 : D ∈ φ5.b := s35.sub D mD
        have n5 : D ∉ φ5.l := r5.db D m5
        have e5 : H5 D = some (.lst ws) := s35.keep D _ hDl nD
        have acc5 := RDs.mono s35 r'.muts _ _ hacc
        refine ⟨ws, e5, by rw [hacc.length]; exact hz, φ5, S5, acc ++ [y], ws ++ [u], ?_, m5, ?_, ?_, upd_same, ?_, h6⟩
        · have t := s'.trans s35
          exact ⟨t.pre, t.bs, t.sub, fun a o e n => by
            have : a ≠ D := fun z => by rw [z, hD] at e; cases e
            rw [upd_ne this]; exact t.keep a o e n, t.new⟩
        all_goals have sw : StepW φ5 φ5 H5 (upd H5 D (.lst (ws ++ [u]))) := ⟨⟨[], by simp⟩, fun a m n => absurd m n, fun a o e _ nb => by
            have : a ≠ D := fun z => nb (z ▸ m5)
            rw [upd_ne this]; exact e, fun a m n => absurd m n⟩
        · exact ⟨r5.nd, r5.len, fun n a o ha ho => (r5.at_ n a o ha ho).moved sw r5.muts (upd_ne fun z => n5 (z ▸ List.mem_of_getElem? ha)), fun a m => by
            by_cases z : a = D
            · exact .inl ⟨_, by rw [z]; exact upd_same⟩
            · rw [upd_ne z]; exact r5.mb a m, r5.db⟩
        · have sl5 := sl'.mono s35 r'.muts
          exact ⟨sl5.len, fun i d e => by
            obtain ⟨v, e1, e2⟩ := sl5.at_ i d e
            exact ⟨v, e1, RD.monoW sw r5.mutl r5.mb d v e2⟩⟩
        · exact RDs.append (RDs.monoW sw r5.mutl r5.mb _ _ acc5) (.cons (RD.monoW sw r5.mutl r5.mb _ _ ry) .nil)
  · have e : k = xs.length := by omega
    subst e
    refine .inl ⟨w1 rfl, ?_⟩
    exact fin φ1 H1 S1 φ' S' H' D acc ws s1 r1 hD s' mD r' hDl hacc (hd acc S' hP)
theorem lc_link {K : PySem.W.Frag} {wi : TI} {g : TG} {g' : D → Rho → (Rho → Prop) → Prop} {tt0 : TT} {te0 : TE} {vs : List Nat} (hg : TgL K g g' vs)
    (k1 : ∀ σ ρ φ S H E R' R, Ok K W σ ρ φ S H E → (∀ φ1 H1 S1 xs live J, Step φ φ1 H H1 → SR K φ1 S1 H1 → WalkD K J xs live φ1 H1 → R' xs live S1 → R J H1) → ti ρ S R' E → wi σ H R)
    (k2 : ∀ σ ρ φ S H E Q' Q, Ok K W0 σ ρ φ S H E → EndT K φ H Q' Q → tt ρ S Q' E → tt0 σ H Q)
    (k3 : ∀ σ ρ φ S H E Q' Q, Ok K W0 σ ρ φ S H E → EndV K φ H Q' Q → te ρ S Q' E → te0 σ H Q)
    (σ : L2.St) (ρ : Rho) (φ : Al) (S : Store) (H : Hp) (E : XQ) (Q' : QD) (Q : VK) (o : Ok K W σ ρ φ S H E) (q : EndV K φ H Q' Q) (h : dLc ti g' tt te ρ S Q' E) : tLc wi g tt0 te0 vs σ H Q := by
  refine lc_core' hg k1 k2 k3 σ ρ φ S H E Q' Q o h fun φ1 H1 S1 φ' S' H' D acc ws s1 r1 hD s' mD r' hDl hacc hq => ?_
  have nD : D ∉ φ'.l := r'.db D mD
  have sw : StepW φ' ⟨φ'.l, φ1.b⟩ H' H' := ⟨⟨[], by simp⟩, fun a m n _ => absurd (s'.sub a m) n, fun _ _ e _ _ => e, fun a m n _ => absurd m n⟩
  refine q ⟨φ'.l, φ1.b⟩ H' S' (.lst acc) (.ref D) (s1.trans ⟨s'.pre, fun a m n _ => absurd m n, fun a m => m, s'.keep, s'.new⟩) ?_ ?_ hq
  · exact ⟨r'.nd, r'.len, fun n a o ha ho => (r'.at_ n a o ha ho).moved sw r'.muts rfl, fun a m => r'.mb a (s'.sub a m), fun a m => r'.db a (s'.sub a m)⟩
  · rw [RD]
    exact ⟨D, ws, rfl, ⟨hDl, nD, r1.outb hD⟩, RDs.monoW sw r'.mutl r'.mb _ _ hacc⟩
theorem lcN_link {K : PySem.W.Frag} {wi : TI} {g : TG} {g' : D → Rho → (Rho → Prop) → Prop} {tt0 : TT} {te0 : TE} {vs : List Nat} (hg : TgL K g g' vs)
    (k1 : ∀ σ ρ φ S H E R' R, Ok K W σ ρ φ S H E → (∀ φ1 H1 S1 xs live J, Step φ φ1 H H1 → SR K φ1 S1 H1 → WalkD K J xs live φ1 H1 → R' xs live S1 → R J H1) → ti ρ S R' E → wi σ H R)
    (k2 : ∀ σ ρ φ S H E Q' Q, Ok K W0 σ ρ φ S H E → EndT K φ H Q' Q → tt ρ S Q' E → tt0 σ H Q)
    (k3 : ∀ σ ρ φ S H E Q' Q, Ok K W0 σ ρ φ S H E → EndV K φ H Q' Q → te ρ S Q' E → te0 σ H Q)
    (σ : L2.St) (ρ : Rho) (φ : Al) (S : Store) (H : Hp) (E : XQ) (Q' : QD) (Q : VK) (o : Ok K W σ ρ φ S H E) (q : EndV K φ H Q' Q) (h : dLcN ti g' tt te ρ S Q' E) : tLc wi g tt0 te0 vs σ H Q := by
  refine lc_core' hg k1 k2 k3 σ ρ φ S H E _ Q o h fun φ1 H1 S1 φ' S' H' D acc ws s1 r1 hD s' mD r' hDl hacc hq => ?_
  obtain ⟨xs, e, hq⟩ := hq
  cases e
  have nD : D ∉ φ'.l := r'.db D mD
  have sw : StepW φ' ⟨φ'.l ++ [D], φ1.b⟩ H' H' := ⟨⟨[D], rfl⟩, fun a m n _ => absurd (s'.sub a m) n, fun _ _ e _ _ => e, fun a m n nb => by
    rcases List.mem_append.mp m with m | m
    · exact absurd m n
    · rw [List.mem_singleton.mp m] at nb
      exact absurd mD nb⟩
  refine q ⟨φ'.l ++ [D], φ1.b⟩ H' (S' ++ [.lst acc]) (.ref S'.length) (.ref D) (s1.trans ⟨?_, fun a m n _ => absurd m n, fun a m => m, s'.keep, ?_⟩) ?_ ?_ hq
  · obtain ⟨ψ, e⟩ := s'.pre
    exact ⟨ψ ++ [D], by show φ'.l ++ [D] = _; rw [e]; simp⟩
  · intro a m n
    rcases List.mem_append.mp m with m | m
    · exact s'.new a m n
    · rw [List.mem_singleton.mp m]; exact hD
  · refine ⟨?_, by simp [r'.len], fun n a u ha hu => ?_, fun a m => r'.mb a (s'.sub a m), fun a m z => ?_⟩
    · show (φ'.l ++ [D]).Nodup
      rw [List.nodup_append]
      refine ⟨r'.nd, by simp, fun a ha b hb => ?_⟩
      rw [List.mem_singleton.mp hb]
      exact fun z => nD (z ▸ ha)
    · have ha' : (φ'.l ++ [D])[n]? = some a := ha
      by_cases hn : n < φ'.l.length
      · rw [List.getElem?_append_left hn] at ha'
        rw [List.getElem?_append_left (by rw [r'.len]; exact hn)] at hu
        exact (r'.at_ n a u ha' hu).moved sw r'.muts rfl
      · have hn' : n = φ'.l.length := by
          have := (List.getElem?_eq_some_iff.mp ha').1
          simp at this; omega
        subst hn'
        rw [List.getElem?_append_right (Nat.le_refl _)] at ha'
        rw [List.getElem?_append_right (by rw [r'.len]; exact Nat.le_refl _), r'.len] at hu
        simp at ha' hu
        subst ha' hu
        exact ⟨ws, hDl, RDs.monoW sw r'.mutl r'.mb _ _ hacc⟩
    · rcases List.mem_append.mp z with z | z
      · exact r'.db a (s'.sub a m) z
      · rw [List.mem_singleton.mp z] at m
        exact r1.outb hD m
  · rw [RD]
    exact ⟨D, rfl, by show (φ'.l ++ [D])[S'.length]? = _; rw [r'.len]; simp⟩
/-! the rules: as a value, as name = [..] -/
section
variable {elt iter tg : Expr} {ifs : List Expr} {scope : Scope} {x x2 : Str} {px px2 : Pos}
theorem de_lc (i : Nat) (hc : ∀ j, (F.X j).calm = true) (hN : ∀ j, (F.X j).N.Nodup) (hi : DI F W (.Name x px) iter ti) (ok : ∀ j, BlkOk (F.X j).N (F.X j).env.scope scope [(x, i)]) (ht : DTs (F.blk scope) W0 ifs tt) (he : DE (F.blk scope) W0 elt te)
    (hg : ∀ j, PG ((F.blk scope).X j) (.Name x px) (gName i)) (hs : ∀ j v, foldedSetIterable iter (F.X j).env v = pure v := by intro _ _; rfl) :
    DE F W (.ListComp elt [⟨.Name x px, iter, ifs, 0⟩] scope pos) (dLc ti (c1 i) tt te) := by
  obtain ⟨wi, p1, k1⟩ := hi
  obtain ⟨t2, p2, k2⟩ := ht
  obtain ⟨t3, p3, k3⟩ := he
  exact ⟨_, fun j => pe_lc (own := [(x, i)]) (hc j) (hN j) (p1 j) (ok j) (fun s H C cl fp => hg (j, s, H, C, cl, fp)) (fun s H C cl fp => p2 (j, s, H, C, cl, fp)) (fun s H C cl fp => p3 (j, s, H, C, cl, fp)) (hs j), lc_link (tgl_1 i) k1 k2 k3⟩
theorem de_lcN (i : Nat) (hc : ∀ j, (F.X j).calm = true) (hN : ∀ j, (F.X j).N.Nodup) (hi : DI F W (.Name x px) iter ti) (ok : ∀ j, BlkOk (F.X j).N (F.X j).env.scope scope [(x, i)]) (ht : DTs (F.blk scope) W0 ifs tt) (he : DE (F.blk scope) W0 elt te)
    (hg : ∀ j, PG ((F.blk scope).X j) (.Name x px) (gName i)) (hs : ∀ j v, foldedSetIterable iter (F.X j).env v = pure v := by intro _ _; rfl) :
    DE F W (.ListComp elt [⟨.Name x px, iter, ifs, 0⟩] scope pos) (dLcN ti (c1 i) tt te) := by
  obtain ⟨wi, p1, k1⟩ := hi
  obtain ⟨t2, p2, k2⟩ := ht
  obtain ⟨t3, p3, k3⟩ := he
  exact ⟨_, fun j => pe_lc (own := [(x, i)]) (hc j) (hN j) (p1 j) (ok j) (fun s H C cl fp => hg (j, s, H, C, cl, fp)) (fun s H C cl fp => p2 (j, s, H, C, cl, fp)) (fun s H C cl fp => p3 (j, s, H, C, cl, fp)) (hs j), lcN_link (tgl_1 i) k1 k2 k3⟩
theorem de_lc2 (i i2 : Nat) {k : Nat} (hij : i ≠ i2) (hc : ∀ j, (F.X j).calm = true) (hN : ∀ j, (F.X j).N.Nodup) (hi : DI F W (.Tuple [.Name x px, .Name x2 px2] k pos) iter ti) (ok : ∀ j, BlkOk (F.X j).N (F.X j).env.scope scope [(x, i), (x2, i2)]) (ht : DTs (F.blk scope) W0 ifs tt) (he : DE (F.blk scope) W0 elt te)
    (hg : ∀ j, PG ((F.blk scope).X j) (.Tuple [.Name x px, .Name x2 px2] k pos) (gTup F.K 2 (gCons (gName i) (gCons (gName i2) gNil)))) {pos2 : Pos} (hs : ∀ j v, foldedSetIterable iter (F.X j).env v = pure v := by intro _ _; rfl) :
    DE F W (.ListComp elt [⟨.Tuple [.Name x px, .Name x2 px2] k pos, iter, ifs, 0⟩] scope pos2) (dLc ti (c2 i i2) tt te) := by
  obtain ⟨wi, p1, k1⟩ := hi
  obtain ⟨t2, p2, k2⟩ := ht
  obtain ⟨t3, p3, k3⟩ := he
  refine ⟨tLc wi (gTup F.K 2 (gCons (gName i) (gCons (gName i2) gNil))) t2 t3 [i, i2], fun j => ?_, lc_link (tgl_2 hij) k1 k2 k3⟩
  exact pe_lc (own := [(x, i), (x2, i2)]) (hc j) (hN j) (p1 j) (ok j) (fun s H C cl fp => hg (j, s, H, C, cl, fp)) (fun s H C cl fp => p2 (j, s, H, C, cl, fp)) (fun s H C cl fp => p3 (j, s, H, C, cl, fp)) (hs j)
/-- y = [..] -/
theorem ds_setLc (n : Nat) {y : Str} {py spos : Pos} {g : TG} {g' : D → Rho → (Rho → Prop) → Prop} {own : List (Str × Nat)} (hl : TgL F.K g g' (own.map (·.2))) (hc : ∀ j, (F.X j).calm = true) (hN : ∀ j, (F.X j).N.Nodup) (hi : DI F W tg iter ti) (ok : ∀ j, BlkOk (F.X j).N (F.X j).env.scope scope own) (ht : DTs (F.blk scope) W0 ifs tt) (he : DE (F.blk scope) W0 elt te)
    (hg : ∀ j, PG ((F.blk scope).X j) tg g) (hsw : ∀ j, swapsWith (.ListComp elt [⟨tg, iter, ifs, 0⟩] scope pos) (some (.Name y py)) spos.line (F.X j).env = pure true)
    (hy : ∀ j, (F.X j).N[n]? = some y := by intro _; rfl) (hyl : ∀ j, (F.X j).env.scope.names.lookup y = some .local := by intro _; rfl) (hs : ∀ j v, foldedSetIterable iter (F.X j).env v = pure v := by intro _ _; rfl) :
    DS F W (.Assign [.Name y py] (.ListComp elt [⟨tg, iter, ifs, 0⟩] scope pos) spos) (dAsg (dLc ti g' tt te) (eName n)) := by
  obtain ⟨wi, p1, k1⟩ := hi
  obtain ⟨t2, p2, k2⟩ := ht
  obtain ⟨t3, p3, k3⟩ := he
  exact ⟨_, fun j => ps_setLc (i := n) (hc j) (hN j) (hy j) (hyl j) (hsw j) (p1 j) (ok j) (fun s H C cl fp => hg (j, s, H, C, cl, fp)) (fun s H C cl fp => p2 (j, s, H, C, cl, fp)) (fun s H C cl fp => p3 (j, s, H, C, cl, fp)) (hs j),
    fun σ ρ φ S H D' D r sl l h => lc_link hl k1 k2 k3 σ ρ φ S H _ _ _ (l.ok r sl) (fun φ1 H1 S1 d v s r1 rd q => l.nx _ _ _ _ _ s r1 ((sl.mono s r.muts).set rd) q) h⟩
theorem ds_setLcN (n : Nat) {y : Str} {py spos : Pos} {g : TG} {g' : D → Rho → (Rho → Prop) → Prop} {own : List (Str × Nat)} (hl : TgL F.K g g' (own.map (·.2))) (hc : ∀ j, (F.X j).calm = true) (hN : ∀ j, (F.X j).N.Nodup) (hi : DI F W tg iter ti) (ok : ∀ j, BlkOk (F.X j).N (F.X j).env.scope scope own) (ht : DTs (F.blk scope) W0 ifs tt) (he : DE (F.blk scope) W0 elt te)
    (hg : ∀ j, PG ((F.blk scope).X j) tg g) (hsw : ∀ j, swapsWith (.ListComp elt [⟨tg, iter, ifs, 0⟩] scope pos) (some (.Name y py)) spos.line (F.X j).env = pure true)
    (hy : ∀ j, (F.X j).N[n]? = some y := by intro _; rfl) (hyl : ∀ j, (F.X j).env.scope.names.lookup y = some .local := by intro _; rfl) (hs : ∀ j v, foldedSetIterable iter (F.X j).env v = pure v := by intro _ _; rfl) :
    DS F W (.Assign [.Name y py] (.ListComp elt [⟨tg, iter, ifs, 0⟩] scope pos) spos) (dAsg (dLcN ti g' tt te) (eName n)) := by
  obtain ⟨wi, p1, k1⟩ := hi
  obtain ⟨t2, p2, k2⟩ := ht
  obtain ⟨t3, p3, k3⟩ := he
  exact ⟨_, fun j => ps_setLc (i := n) (hc j) (hN j) (hy j) (hyl j) (hsw j) (p1 j) (ok j) (fun s H C cl fp => hg (j, s, H, C, cl, fp)) (fun s H C cl fp => p2 (j, s, H, C, cl, fp)) (fun s H C cl fp => p3 (j, s, H, C, cl, fp)) (hs j),
    fun σ ρ φ S H D' D r sl l h => lcN_link hl k1 k2 k3 σ ρ φ S H _ _ _ (l.ok r sl) (fun φ1 H1 S1 d v s r1 rd q => l.nx _ _ _ _ _ s r1 ((sl.mono s r.muts).set rd) q) h⟩
end

/-! ### calls of defs -/
abbrev DSp := List D → Store → QD → XQ → Prop
def liftSp (K : PySem.W.Frag) (sp : DSp) : Sp := fun vs H Q E => ∃ φ S ds Q' E', SR K φ S H ∧ RDs K φ H ds vs ∧ sp ds S Q' E' ∧ EndV K φ H Q' Q ∧
  ∀ φ' H' S' x cls d, Step φ φ' H H' → SR K φ' S' H' → ExR K φ' H' x cls d → E' x S' → E cls d H'
def dCall (sp : DSp) (t : DTA) : DTE := fun ρ S Q E => t ρ S (fun ds S1 => sp ds S1 Q E) E
theorem call_link {K : PySem.W.Frag} {sp : DSp} {σ : L2.St} {ρ : Rho} {φ : Al} {S : Store} {H : Hp} {E : XQ} {Q' : QD} {Q : VK} {ds : List D} {vs : List V} (o : Ok K W σ ρ φ S H E) (q : EndV K φ H Q' Q) (rd : RDs K φ H ds vs) (h : sp ds S Q' E) : liftSp K sp vs H Q (WE W σ) :=
  ⟨φ, S, ds, Q', E, o.sr, rd, h, q, o.ex⟩
theorem de_call {k : Nat} {f : Addr} {fd : FuncData} {ps : List Str} {sp : DSp} {x : Str} {p : Pos} (G : ∀ i, FnOk (F.X i).prog (F.X i).w (F.X i).K (F.X i).mg (F.X i).base (L2.CX (F.X i).prog (F.X i).w) k f fd ps (liftSp F.K sp)) (hr : ∀ i, Room k (F.X i).A) (hg : ∀ i, Gl (F.X i) x) (hm : ∀ i, (F.X i).mg x = some (.ref f))
    (hk : ∀ i, PySem.W.keepIn (F.X i).K (.ref f) = true) (hb : ∀ i, Binds (F.X i).K fd ps []) (tk : ∀ i, Takes (F.X i) W) (ha : DA F W (e :: es) t) (hdb : (x == ("__debug__" : Str)) = false := by decide)
    (he : ∀ i, starEach (e :: es) (F.X i).env = (false, eval e (F.X i).env) :: starEach es (F.X i).env := by intro _; rfl) (hpl : ∀ i, (backTo pos (starEach es (F.X i).env)).any (·.1) = false := by intro _; rfl) :
    DE F W (.Call (.Name x p) (e :: es) [] pos) (dCall sp t) := by
  obtain ⟨t1, p1, k1⟩ := ha
  refine ⟨_, fun i => pe_callS (G i) (hr i) (hg i) (hm i) (hk i) (hb i) (fun σ => passAt (tk i) σ) (p1 i) hdb (he i) (hpl i), fun σ ρ φ S H E Q' Q o q h => ?_⟩
  exact k1 σ ρ φ S H E _ _ o (fun φ1 H1 S1 ds vs s1 r1 rd h1 => call_link (o.mono s1 r1) (q.mono s1) rd h1) h
end

/-! ### a def's body -/
theorem start_sl {K : PySem.W.Frag} {φ : Al} {H : Hp} {ds : List D} {vs : List V} {n : Nat} (h : RDs K φ H ds vs) : Sl K φ H (ds.map some ++ List.replicate n none) (vs.map some ++ List.replicate n none) := by
  refine ⟨by simp [h.length], fun i d e => ?_⟩
  by_cases hi : i < ds.length
  · rw [List.getElem?_append_left (by simpa using hi)] at e
    rw [List.getElem?_append_left (by rw [List.length_map, h.length]; exact hi)]
    rw [List.getElem?_map] at e ⊢
    cases q : ds[i]? with
    | none => rw [q] at e; cases e
    | some y =>
      rw [q] at e
      cases e
      obtain ⟨v, e1, e2⟩ := h.get q
      exact ⟨v, by rw [e1]; rfl, e2⟩
  · rw [List.getElem?_append_right (by simpa using Nat.le_of_not_lt hi)] at e
    rw [List.getElem?_replicate] at e
    split at e <;> cases e
def startD (N : List Str) (ds : List D) : Rho := ds.map some ++ List.replicate (N.length - ds.length) none
section
variable {P : Program} {w : World} {K : PySem.W.Frag} {mg : Str → Option Value} {base : Heap}
/-- the context of a body that may let something out -/
abbrev bodyX (P : Program) (w : World) (K : PySem.W.Frag) (mg : Str → Option Value) (base : Heap) (N : List Str) (qual : Str) (sc : Scope) (f : Addr) (cdv : Value) (A : Around) (outer : List Env) (s : Shared) (H : Hp) (E : XK) : Cx :=
  cxOf (L2.CX P w) P w K mg base N qual sc f cdv A outer s H E
theorem bodyTk {N : List Str} {qual : Str} {sc : Scope} {f : Addr} {cdv : Value} {A : Around} {outer : List Env} {s : Shared} {H : Hp} {E : XK} : Takes (bodyX P w K mg base N qual sc f cdv A outer s H E) (fun cls d _ H => E cls d H) := takes_of rfl rfl rfl rfl
theorem bodyHp {N : List Str} {qual : Str} {sc : Scope} {f : Addr} {cdv : Value} {A : Around} {outer : List Env} {s : Shared} {H : Hp} {E : XK} :
    PassesOwn (model (bodyX P w K mg base N qual sc f cdv A outer s H E).prog (bodyX P w K mg base N qual sc f cdv A outer s H E).w) (bodyX P w K mg base N qual sc f cdv A outer s H E).A (bodyX P w K mg base N qual sc f cdv A outer s H E).env (bodyX P w K mg base N qual sc f cdv A outer s H E).xe := passes_of rfl
theorem dfn {x qual : Str} {st : Stmt} {f : Addr} {fd : FuncData} {N ps : List Str} {k : Nat} {sp : DSp} (F : Fun K x qual st f fd) (S : FnScope N ps (defScope st)) (len : ∀ ds S Q E, sp ds S Q E → ds.length = ps.length)
    (body : ∀ (cdv : Value) (A : Around) (outer : List Env) (s : Shared) (H : Hp) (E : XK), Room k (A.deeper (envOfC qual (defScope st) s.heap.objs.size f cdv)) →
      ∃ t, DSs (Fam.one (bodyX P w K mg base N qual (defScope st) f cdv A outer s H E)) (fun cls d _ H => E cls d H) (defBody st) t ∧
        ∀ ds S Q E, sp ds S Q E → t { nx := fun _ S' => Q .non S', rt := Q, ex := fun x _ S' => E x S' } (startD N ds) S) :
    FnOk P w K mg base (L2.CX P w) (k + 1) f fd ps (liftSp K sp) := by
  refine F.okX S (fun vs H Q E h => ?_) (fun cdv A outer s H vs Q E hr h => ?_)
  · obtain ⟨φ, S, ds, Q', E', _, rd, h, _⟩ := h
    rw [rd.length]
    exact len ds S Q' E' h
  · obtain ⟨φ, S0, ds, Q', E', r, rd, h, q, ex⟩ := h
    obtain ⟨t, ⟨t1, p1, k1⟩, ht⟩ := body cdv A outer s H E hr
    refine ⟨t1, p1 (), ?_⟩
    refine k1 (L2.start N vs) (startD N ds) φ S0 H _ _ r ?_ ?_ (ht ds S0 Q' E' h)
    · unfold L2.start startD
      rw [rd.length]
      exact start_sl rd
    · exact ⟨fun φ' H' S' ρ' σ' s r' _ h => q _ _ _ _ _ s r' rd_non h, fun φ' H' S' d v s r' rd h => q _ _ _ _ _ s r' rd h, fun _ _ _ _ _ _ _ _ h => h.elim, fun _ _ _ _ _ _ _ _ h => h.elim,
        fun φ' H' S' ρ' σ' x cls d s r' _ xr h => ex _ _ _ _ _ _ s r' xr h⟩
end
end Dy
namespace Dy
open PySem PySem.Spec PyProof.Rows L2

/-! ### methods of built-in types -/
abbrev DM := D → List D → Store → QD → Prop
def LkM (K : PySem.W.Frag) (r' : DM) (r : V → List V → Hp → VK → Prop) : Prop := ∀ φ S H Q' Q d v ds vs, SR K φ S H → RD K φ H d v → RDs K φ H ds vs → EndV K φ H Q' Q → r' d ds S Q' → r v vs H Q
def dBM (r : DM) (to : DTE) (t : DTA) : DTE := fun ρ S Q E => to ρ S (fun o S1 => (∃ xs, lsOf S1 o = some xs) ∧ t ρ S1 (fun ds S2 => r o ds S2 Q) E) E
def dBM0 (r : DM) (to : DTE) : DTE := fun ρ S Q E => to ρ S (fun o S1 => (∃ xs, lsOf S1 o = some xs) ∧ r o [] S1 Q) E
section
variable {F : Fam} {W : WX} {o e : Expr} {es : List Expr} {to te : DTE} {t : DTA} {name : Str} {apos cpos : Pos} {id : String} {r : V → List V → Hp → VK → Prop} {r' : DM}
theorem de_bm (slot : Slot "list" name id) (hty : typeOf (.builtin id) = pure (.type "method_descriptor")) (hm : ∀ i, MtR (F.X i) id r) (lk : LkM F.K r' r) (ho : DE F W o to) (ha : DA F W (e :: es) t)
    (hbase : ∀ i, attributeBase o name (F.X i).env (eval o (F.X i).env) = eval o (F.X i).env := by intro _; rfl)
    (hfew : ∀ i, ((backTo cpos (starEach (e :: es) (F.X i).env)).all (fun x => !x.1) && (backToKw cpos (keywordEach [] (F.X i).env)).all (fun x => x.1.isSome)
      && decide ((e :: es).length + ([] : List Keyword).length + (if ([] : List Keyword).isEmpty then 0 else 1) < 30)) = true := by intro _; rfl)
    (hline : (apos.endLine == cpos.line) = true := by rfl) (hs : ∀ i, starEach (e :: es) (F.X i).env = (false, eval e (F.X i).env) :: starEach es (F.X i).env := by intro _; rfl) (hplain : ∀ i, (backTo cpos (starEach es (F.X i).env)).any (·.1) = false := by intro _; rfl) :
    DE F W (.Call (.Attribute o name apos) (e :: es) [] cpos) (dBM r' to t) := by
  obtain ⟨t1, p1, k1⟩ := ho
  obtain ⟨t2, p2, k2⟩ := ha
  refine ⟨tBM F.K "list" r t1 t2, fun i => F.hK i ▸ pe_bm PySem.F.plainAttrs_list slot hty (hm i) (p1 i) (p2 i) (hbase i) (hfew i) hline (hs i) (hplain i), fun σ ρ φ S H E Q' Q o q h => ?_⟩
  refine k1 σ ρ φ S H E _ _ o (fun φ1 H1 S1 d v s1 r1 rd h1 => ?_) h
  obtain ⟨⟨xs, ex⟩, h1⟩ := h1
  obtain ⟨a, vs, rfl, h2, _⟩ := ls_of r1 rd ex
  refine ⟨.inl ⟨rfl, vs, h2⟩, ?_⟩
  refine k2 σ ρ φ1 S1 H1 E _ _ (o.mono s1 r1) (fun φ2 H2 S2 ds ws s2 r2 rds h2 => ?_) h1
  exact lk φ2 S2 H2 _ _ d _ ds ws r2 (RD.mono s2 r1.muts _ _ rd) rds (q.mono (s1.trans s2)) h2
theorem de_bm0 (slot : Slot "list" name id) (hty : typeOf (.builtin id) = pure (.type "method_descriptor")) (hm : ∀ i, MtR (F.X i) id r) (lk : LkM F.K r' r) (ho : DE F W o to)
    (hbase : ∀ i, attributeBase o name (F.X i).env (eval o (F.X i).env) = eval o (F.X i).env := by intro _; rfl) (hline : (apos.endLine == cpos.line) = true := by rfl) :
    DE F W (.Call (.Attribute o name apos) [] [] cpos) (dBM0 r' to) := by
  obtain ⟨t1, p1, k1⟩ := ho
  refine ⟨tBM0 F.K "list" r t1, fun i => F.hK i ▸ pe_bm0 PySem.F.plainAttrs_list slot hty (hm i) (p1 i) (hbase i) hline, fun σ ρ φ S H E Q' Q o q h => ?_⟩
  refine k1 σ ρ φ S H E _ _ o (fun φ1 H1 S1 d v s1 r1 rd h1 => ?_) h
  obtain ⟨⟨xs, ex⟩, h1⟩ := h1
  obtain ⟨a, vs, rfl, h2, _⟩ := ls_of r1 rd ex
  exact ⟨.inl ⟨rfl, vs, h2⟩, lk φ1 S1 H1 _ _ d _ [] [] r1 rd .nil (q.mono s1) h1⟩
end
/-- xs.append(y) -/
def mApp : DM := fun o ds S Q => ∃ n xs y, o = .ref n ∧ ds = [y] ∧ S[n]? = some (.lst xs) ∧ xs.length < sizeLine ∧ Q .non (S.set n (.lst (xs ++ [y])))
def mPopAt : DM := fun o ds S Q => ∃ n xs i k y, o = .ref n ∧ ds = [.int i] ∧ S[n]? = some (.lst xs) ∧ -(2 ^ 63) ≤ i ∧ i < 2 ^ 63 ∧ seqIndex? i xs.length = some k ∧ xs[k]? = some y ∧ Q y (S.set n (.lst (xs.eraseIdx k)))
def mPop : DM := fun o ds S Q => ∃ n xs y, o = .ref n ∧ ds = [] ∧ S[n]? = some (.lst xs) ∧ xs[xs.length - 1]? = some y ∧ Q y (S.set n (.lst xs.dropLast))
def mExt : DM := fun o ds S Q => ∃ n xs e ys, o = .ref n ∧ ds = [e] ∧ S[n]? = some (.lst xs) ∧ lsM S e = some ys ∧ xs.length + ys.length ≤ sizeLine ∧ Q .non (S.set n (.lst (xs ++ ys)))
section
variable {K : PySem.W.Frag}
theorem lk_app : LkM K mApp rAppend := by
  rintro φ S H Q' Q d v ds vs r rd rds q ⟨n, xs, y, rfl, rfl, e, hz, h⟩
  obtain ⟨a, ws, rfl, ha, hl, rs⟩ := r.lst rd e
  obtain ⟨u, rfl, ry⟩ := rds1 rds
  have st := r.step_put (ho := .lst (ws ++ [u])) ha
  exact ⟨a, ws, u, rfl, rfl, hl, by rw [rs.length]; exact hz, q _ _ _ _ _ st (r.put (o := .lst (xs ++ [y])) ha ⟨_, upd_same, RDs.mono st r.muts _ _ (rs.append (.cons ry .nil))⟩) rd_non h⟩
theorem lk_popAt : LkM K mPopAt rPopAt := by
  rintro φ S H Q' Q d v ds vs r rd rds q ⟨n, xs, i, k, y, rfl, rfl, e, b1, b2, hk, hy, h⟩
  obtain ⟨a, ws, rfl, ha, hl, rs⟩ := r.lst rd e
  obtain ⟨u, rfl, ru⟩ := rds1 rds
  rw [RD] at ru
  subst ru
  obtain ⟨w, hw, rw'⟩ := rs.get hy
  have st := r.step_put (ho := .lst (ws.eraseIdx k)) ha
  exact ⟨a, ws, i, k, w, rfl, rfl, hl, b1, b2, by rw [rs.length]; exact hk, hw, q _ _ _ _ _ st (r.put (o := .lst (xs.eraseIdx k)) ha ⟨_, upd_same, RDs.mono st r.muts _ _ (rs.eraseIdx k)⟩) (RD.mono st r.muts _ _ rw') h⟩
theorem RDs.dropLast {φ : Al} {H : Hp} : ∀ {xs : List D} {vs : List V}, RDs K φ H xs vs → RDs K φ H xs.dropLast vs.dropLast
  | xs, vs, h => by
    rw [List.dropLast_eq_take, List.dropLast_eq_take, h.length]
    exact h.take _
theorem lk_pop : LkM K mPop rPop := by
  rintro φ S H Q' Q d v ds vs r rd rds q ⟨n, xs, y, rfl, rfl, e, hy, h⟩
  obtain ⟨a, ws, rfl, ha, hl, rs⟩ := r.lst rd e
  rw [RDs] at rds
  subst rds
  obtain ⟨w, hw, rw'⟩ := rs.get hy
  have st := r.step_put (ho := .lst ws.dropLast) ha
  exact ⟨a, ws, w, rfl, rfl, hl, by rw [rs.length]; exact hw, q _ _ _ _ _ st (r.put (o := .lst xs.dropLast) ha ⟨_, upd_same, RDs.mono st r.muts _ _ rs.dropLast⟩) (RD.mono st r.muts _ _ rw') h⟩
theorem lk_ext : LkM K mExt rExtend := by
  rintro φ S H Q' Q d v ds vs r rd rds q ⟨n, xs, y, ys, rfl, rfl, e, ey, hz, h⟩
  obtain ⟨a, ws, rfl, ha, hl, rs⟩ := r.lst rd e
  obtain ⟨u, rfl, ru⟩ := rds1 rds
  obtain ⟨b, zs, rfl, hb, rz⟩ := ls_m r ru ey
  have st := r.step_put (ho := .lst (ws ++ zs)) ha
  exact ⟨a, b, ws, zs, rfl, rfl, hl, hb, by rw [rs.length, rz.length]; exact hz, q _ _ _ _ _ st (r.put (o := .lst (xs ++ ys)) ha ⟨_, upd_same, RDs.mono st r.muts _ _ (rs.append rz)⟩) rd_non h⟩
end
section
variable {F : Fam} {W : WX} {o e : Expr} {es : List Expr} {to te : DTE} {t : DTA} {apos cpos : Pos}
theorem de_append (ho : DE F W o to) (ha : DA F W [e] t) (hbase : ∀ i, attributeBase o "append" (F.X i).env (eval o (F.X i).env) = eval o (F.X i).env := by intro _; rfl)
    (hfew : ∀ i, ((backTo cpos (starEach [e] (F.X i).env)).all (fun x => !x.1) && (backToKw cpos (keywordEach [] (F.X i).env)).all (fun x => x.1.isSome)
      && decide (([e] : List Expr).length + ([] : List Keyword).length + (if ([] : List Keyword).isEmpty then 0 else 1) < 30)) = true := by intro _; rfl)
    (hline : (apos.endLine == cpos.line) = true := by rfl) (hs : ∀ i, starEach [e] (F.X i).env = (false, eval e (F.X i).env) :: starEach [] (F.X i).env := by intro _; rfl) (hplain : ∀ i, (backTo cpos (starEach [] (F.X i).env)).any (·.1) = false := by intro _; rfl) :
    DE F W (.Call (.Attribute o "append" apos) [e] [] cpos) (dBM mApp to t) := de_bm PySem.F.slot_list_append PySem.F.type_list_append (fun _ => mt_append) lk_app ho ha hbase hfew hline hs hplain
theorem de_extend (ho : DE F W o to) (ha : DA F W [e] t) (hbase : ∀ i, attributeBase o "extend" (F.X i).env (eval o (F.X i).env) = eval o (F.X i).env := by intro _; rfl)
    (hfew : ∀ i, ((backTo cpos (starEach [e] (F.X i).env)).all (fun x => !x.1) && (backToKw cpos (keywordEach [] (F.X i).env)).all (fun x => x.1.isSome)
      && decide (([e] : List Expr).length + ([] : List Keyword).length + (if ([] : List Keyword).isEmpty then 0 else 1) < 30)) = true := by intro _; rfl)
    (hline : (apos.endLine == cpos.line) = true := by rfl) (hs : ∀ i, starEach [e] (F.X i).env = (false, eval e (F.X i).env) :: starEach [] (F.X i).env := by intro _; rfl) (hplain : ∀ i, (backTo cpos (starEach [] (F.X i).env)).any (·.1) = false := by intro _; rfl) :
    DE F W (.Call (.Attribute o "extend" apos) [e] [] cpos) (dBM mExt to t) := de_bm PySem.F.slot_list_extend PySem.F.type_list_extend (fun _ => mt_extend) lk_ext ho ha hbase hfew hline hs hplain
theorem de_popAt (ho : DE F W o to) (ha : DA F W [e] t) (hbase : ∀ i, attributeBase o "pop" (F.X i).env (eval o (F.X i).env) = eval o (F.X i).env := by intro _; rfl)
    (hfew : ∀ i, ((backTo cpos (starEach [e] (F.X i).env)).all (fun x => !x.1) && (backToKw cpos (keywordEach [] (F.X i).env)).all (fun x => x.1.isSome)
      && decide (([e] : List Expr).length + ([] : List Keyword).length + (if ([] : List Keyword).isEmpty then 0 else 1) < 30)) = true := by intro _; rfl)
    (hline : (apos.endLine == cpos.line) = true := by rfl) (hs : ∀ i, starEach [e] (F.X i).env = (false, eval e (F.X i).env) :: starEach [] (F.X i).env := by intro _; rfl) (hplain : ∀ i, (backTo cpos (starEach [] (F.X i).env)).any (·.1) = false := by intro _; rfl) :
    DE F W (.Call (.Attribute o "pop" apos) [e] [] cpos) (dBM mPopAt to t) := de_bm PySem.F.slot_list_pop PySem.F.type_list_pop (fun _ => mt_popAt) lk_popAt ho ha hbase hfew hline hs hplain
theorem de_pop (ho : DE F W o to) (hbase : ∀ i, attributeBase o "pop" (F.X i).env (eval o (F.X i).env) = eval o (F.X i).env := by intro _; rfl) (hline : (apos.endLine == cpos.line) = true := by rfl) :
    DE F W (.Call (.Attribute o "pop" apos) [] [] cpos) (dBM0 mPop to) := de_bm0 PySem.F.slot_list_pop PySem.F.type_list_pop (fun _ => mt_pop) lk_pop ho hbase hline
end

/-! ### isinstance -/
def tagOf (S : Store) : D → Option String
  | .non => some "NoneType"
  | .bl _ => some "bool"
  | .int _ => some "int"
  | .str _ => some "str"
  | .tup _ => some "tuple"
  | .lst _ => some "list"
  | .frz _ => some "list"
  | .dic _ _ => some "dict"
  | .ref n => match S[n]? with
    | some (.lst _) => some "list"
    | some (.dK _) => some "dict"
    | _ => none
  | _ => none
def isiT (T tag : String) : Bool := tag == T || (T == "int" && tag == "bool")
def tags : List String := ["NoneType", "bool", "int", "str", "tuple", "list", "dict"]
theorem kit_tags : ∀ a ∈ tags, ∀ b ∈ tags, b ≠ "NoneType" → kitB a b = some (isiT b a) := by decide +kernel
theorem tag_ty {K : PySem.W.Frag} {φ : Al} {H : Hp} {S : Store} {d : D} {v : V} {tag : String} (r : SR K φ S H) (rd : RD K φ H d v) (h : tagOf S d = some tag) : TyX K H v (.type tag) ∧ tag ∈ tags := by
  cases d with
  | non => rw [RD] at rd; subst rd; cases h; exact ⟨.base .non, by decide⟩
  | bl b => rw [RD] at rd; subst rd; cases h; exact ⟨.base (.bl b), by decide⟩
  | int b => rw [RD] at rd; subst rd; cases h; exact ⟨.base (.int b), by decide⟩
  | str b => rw [RD] at rd; subst rd; cases h; exact ⟨.base (.str b), by decide⟩
  | ty n => cases h
  | cls n => cases h
  | exo a d ks xs => cases h
  | tup xs =>
    obtain ⟨a, vs, rfl, h1, _⟩ := rd_tup rd
    cases h
    refine ⟨?_, by decide⟩
    rcases h1 with (h1 | ⟨o, h1⟩) | ⟨o, its, n, h1, h2, _⟩
    · exact .base (.tup h1)
    · exact .fTuple h1
    · exact .kTuple h1 h2
  | lst xs =>
    rw [RD] at rd
    obtain ⟨a, vs, rfl, h1, _⟩ := rd
    cases h
    exact ⟨.base (.lst h1.1), by decide⟩
  | frz xs =>
    rw [RD] at rd
    obtain ⟨a, vs, rfl, h1, _⟩ := rd
    cases h
    refine ⟨?_, by decide⟩
    rcases h1 with ⟨o, h1⟩ | (h1 | ⟨o, h1⟩) | ⟨o, its, n, h1, h2, _⟩
    · exact .base (.frz h1)
    · cases h1
    · cases h1
    · exact .kList h1 h2
  | dic ks xs =>
    rw [RD] at rd
    obtain ⟨a, vs, rfl, h1, _⟩ := rd
    cases h
    exact ⟨.base (.dK h1.1), by decide⟩
  | ref n =>
    simp only [tagOf] at h
    obtain ⟨a, rfl, ha⟩ := rd_ref rd
    split at h
    · rename_i xs e
      cases h
      obtain ⟨vs, h1, _⟩ := r.at_ n a _ ha e
      exact ⟨.base (.lst h1), by decide⟩
    · rename_i xs e
      cases h
      obtain ⟨vs, h1, _⟩ := r.at_ n a _ ha e
      exact ⟨.base (.dK h1), by decide⟩
    · cases h
def cIsi (T : String) : DR := fun ds S Q => ∃ d tag, ds = [d, .ty T] ∧ tagOf S d = some tag ∧ Q (.bl (isiT T tag)) S
theorem lk_isi {K : PySem.W.Frag} {T : String} (hT : T ∈ tags) (hN : T ≠ "NoneType") : LkC K (cIsi T) (rIsi K) := by
  rintro φ S H Q' Q ds vs r rd q ⟨d, tag, rfl, e, h⟩
  obtain ⟨v, w, rfl, h1, h2⟩ := rds2 rd
  rw [RD] at h2
  subst h2
  obtain ⟨ty, ht⟩ := tag_ty r h1 e
  exact ⟨v, .ty T, _, _, _, rfl, .ty T, ty, kit_ty (kit_tags tag ht T hT hN), q φ H S _ _ .refl r rd_bl h⟩
end Dy
namespace Dy
open PySem PySem.Spec PyProof.Rows L2

/-! ### by values: an object made, a method called, where what is raised is wished for at the slots -/
section
variable {X : Cx} {CX : CXT} {k : Nat} {C f : Addr} {fd : FuncData} {ps : List Str} {sp : Sp} {E : L2.St → XK} {x m : Str} {p apos pos : Pos} {o e : Expr} {es : List Expr} {t : TA} {ta : TE}
def tMakeS (C : Addr) (sp : Sp) (E : L2.St → XK) (t : TA) : TE := fun σ H Q => t σ H fun vs H1 => ∀ x dx, H1 x = none → H1 dx = none → dx ≠ x →
  sp (.ref x :: vs) (upd (upd H1 dx (.own x)) x (.ins C dx [])) (fun v H2 => v = .non ∧ Q (.ref x) H2) (E σ)
theorem runMakeS {pins : List (Addr × Obj)} {σ : L2.St} {H : Hp} {s : Shared} {Q : VK} {us : List Value} {vs : List V} (M : Mk X.K C f) (G : FnOk X.prog X.w X.K X.mg X.base CX k f fd ps sp) (hr : Room (k + 1) X.A) (hb : Binds X.K fd ps [])
    (hx : PassesAt CX X σ (E σ)) (I : Inv X pins σ H s) (r : Vals vs us) (h : ∀ x dx, H x = none → H dx = none → dx ≠ x → sp (.ref x :: vs) (upd (upd H dx (.own x)) x (.ins C dx [])) (fun v H2 => v = .non ∧ Q (.ref x) H2) (E σ)) :
    wpAny (model X.prog X.w) X.A (call (.ref C) us) (EP X pins σ Q) X.xe s := by
  have n1 := I.hok.fresh (Nat.le_succ s.heap.objs.size)
  have n0 := I.hok.fresh (Nat.le_refl s.heap.objs.size)
  have want := h _ _ n1 n0 (Nat.ne_of_lt (Nat.lt_succ_self _))
  have J := Inv.made (C := C) I
  have rr : Vals (V.ref (s.heap.objs.size + 1) :: vs) (Value.ref (s.heap.objs.size + 1) :: us) := .cons rfl r
  have ln : (Value.ref (s.heap.objs.size + 1) :: us).length = ps.length := rr.length.symm.trans (G.len _ _ _ _ want)
  have bb := hb _ (Value.ref (s.heap.objs.size + 1) :: us) J.kIn (by rw [List.append_nil]; exact ln)
  rw [List.append_nil] at bb
  have run := G.run _ X.stack _ _ ⟨Value.ref (s.heap.objs.size + 1) :: us, []⟩ _ _ _ (E σ) (hr.make C us []) (J.env0.make C us []) bb rr want
  refine wpAny_call (make_map (f := f) I.kIn M.makes M.init (beq_iff_eq.mp M.fn) (codeAny_mono run fun z s' hz => ?_))
  match z, hz with
  | .error er, hz => exact hx pins _ _ er s' J hz
  | .ok (.ret u), hz =>
    obtain ⟨v, H', J', rv, ev, qq⟩ := J.after hz
    subst ev
    exact ⟨rv, ⟨V.ref (s.heap.objs.size + 1), H', J', rfl, qq⟩⟩
theorem pe_makeS' (M : Mk X.K C f) (G : FnOk X.prog X.w X.K X.mg X.base CX k f fd ps sp) (hr : Room (k + 1) X.A) (hg : Gl X x) (hm : X.mg x = some (.ref C)) (hb : Binds X.K fd ps []) (hx : ∀ σ, PassesAt CX X σ (E σ)) (ha : PA X (e :: es) t)
    (hdb : (x == ("__debug__" : Str)) = false) (he : starEach (e :: es) X.env = (false, eval e X.env) :: starEach es X.env) (hpl : (backTo pos (starEach es X.env)).any (·.1) = false) : PE X (.Call (.Name x p) (e :: es) [] pos) (tMakeS C sp E t) :=
  ⟨fun pins s σ H Q I h => wpAny_Call_Name_kw (ld_glob I hg hm (PySem.W.callWith_K (h₀ := X.base) I.ok.mod.kin M.kp (thn (ha.run pos pins s σ H _ I h) fun us s1 ⟨vs, H1, I1, r, q⟩ => ⟨I1.kIn, runMakeS M G hr hb (hx σ) I1 r q⟩) he hpl) hdb)⟩
theorem pe_makeS0' (M : Mk X.K C f) (G : FnOk X.prog X.w X.K X.mg X.base CX k f fd ps sp) (hr : Room (k + 1) X.A) (hg : Gl X x) (hm : X.mg x = some (.ref C)) (hb : Binds X.K fd ps []) (hx : ∀ σ, PassesAt CX X σ (E σ))
    (hdb : (x == ("__debug__" : Str)) = false) : PE X (.Call (.Name x p) [] [] pos) (tMakeS C sp E tNil) :=
  ⟨fun pins s σ H Q I h => wpAny_Call_Name_kw (ld_glob I hg hm (PySem.W.callWith_K0 I.kIn M.kp (runMakeS (us := []) M G hr hb (hx σ) I .nil h)) hdb)⟩
def tMethSS (C : Addr) (m : Str) (sp : Sp) (E : L2.St → XK) (ta : TE) (t : TA) : TE := fun σ H Q => ta σ H fun x H1 => ∃ a dx fs, x = .ref a ∧ H1 a = some (.ins C dx fs) ∧ fs.lookup m = none ∧ t σ H1 fun vs H2 => sp (x :: vs) H2 Q (E σ)
theorem pe_methSS' {pl : Sem Bool} (he : PE X o ta) (c : Cls X.K C) (hm : Meth X.K C m f) (G : FnOk X.prog X.w X.K X.mg X.base CX k f fd ps sp) (hr : Room k X.A) (hb : Binds X.K fd ps []) (hx : ∀ σ, PassesAt CX X σ (E σ)) (ha : PA X (e :: es) t)
    (hst : starEach (e :: es) X.env = (false, eval e X.env) :: starEach es X.env) (hpl : (backTo pos (starEach es X.env)).any (·.1) = false)
    (ht : eval (.Call (.Attribute o m apos) (e :: es) [] pos) X.env = (do
      let ov ← eval o X.env
      standAt apos.atName
      let (f, first) ← holding [ov] (getMethod ov m pl)
      callWith pos f first (backTo pos (starEach (e :: es) X.env)) (backToKw pos (keywordEach [] X.env)))) : PE X (.Call (.Attribute o m apos) (e :: es) [] pos) (tMethSS C m sp E ta t) := by
  refine ⟨fun pins s σ H Q I h => PySem.W.methodCall_KW (pl := pl) (thn (he.run pins s σ H _ I h) fun u s1 ⟨x, H1, I1, rx, a, dx, fs, ex, ea, l, q⟩ => ?_) ht⟩
  subst ex
  cases (show u = Value.ref a from rx)
  refine getmeth_ok I1 ea c hm l (PySem.W.callWith_K (first := [.ref a]) (h₀ := X.base) I.ok.mod.kin hm.kp (thn (ha.run pos pins s1 σ H1 _ I1 q) fun us s2 ⟨vs, H2, I2, r, q2⟩ => ⟨I2.kIn, ?_⟩) hst hpl)
  exact run_fnS (us := .ref a :: us) (vs := .ref a :: vs) G hr hb (hx σ) I2 (.cons rfl r) q2
theorem pe_methSS0' {pl : Sem Bool} (he : PE X o ta) (c : Cls X.K C) (hm : Meth X.K C m f) (G : FnOk X.prog X.w X.K X.mg X.base CX k f fd ps sp) (hr : Room k X.A) (hb : Binds X.K fd ps []) (hx : ∀ σ, PassesAt CX X σ (E σ))
    (ht : eval (.Call (.Attribute o m apos) [] [] pos) X.env = (do
      let ov ← eval o X.env
      standAt apos.atName
      let (f, first) ← holding [ov] (getMethod ov m pl)
      callWith pos f first (backTo pos (starEach [] X.env)) (backToKw pos (keywordEach [] X.env)))) : PE X (.Call (.Attribute o m apos) [] [] pos) (tMethSS C m sp E ta tNil) := by
  refine ⟨fun pins s σ H Q I h => PySem.W.methodCall_KW (pl := pl) (thn (he.run pins s σ H _ I h) fun u s1 ⟨x, H1, I1, rx, a, dx, fs, ex, ea, l, q⟩ => ?_) ht⟩
  subst ex
  cases (show u = Value.ref a from rx)
  refine getmeth_ok I1 ea c hm l ?_
  exact PySem.W.callWith_K0 (first := [.ref a]) I1.kIn hm.kp (run_fnS (us := [.ref a]) (vs := [.ref a]) G hr hb (hx σ) I1 (.cons rfl .nil) q)
theorem pe_callS0' (G : FnOk X.prog X.w X.K X.mg X.base CX k f fd ps sp) (hr : Room k X.A) (hg : Gl X x) (hm : X.mg x = some (.ref f)) (hk : PySem.W.keepIn X.K (.ref f) = true) (hb : Binds X.K fd ps []) (hx : ∀ σ, PassesAt CX X σ (E σ))
    (hdb : (x == ("__debug__" : Str)) = false) : PE X (.Call (.Name x p) [] [] pos) (tCallS sp E tNil) :=
  ⟨fun pins s σ H Q I h => wpAny_Call_Name_kw (ld_glob I hg hm (PySem.W.callWith_K0 I.kIn hk (run_fnS (us := []) G hr hb (hx σ) I .nil h)) hdb)⟩
/-- X(), X an own exception class without own __init__ -/
theorem pmk_own0' {bmB : List Value} {B newId initId : String} (EF : ExcBaseFacts B newId initId bmB) (q : PySem.W.excIn X.K C bmB newId = true) (gC : X.mg x = some (.ref C)) (kC : PySem.W.keepIn X.K (.ref C) = true) (r : Raises X (.ref C)) (hg : Gl X x)
    (hdb : (x == ("__debug__" : Str)) = false) : PMk X (.Call (.Name x p) [] [] pos) (fun _ H Q => Q (.ref C) none H) := by
  intro pins s σ H Q I h
  refine wpAny_Call_Name_kw (ld_glob I hg gC (PySem.W.callWith_K0 I.kIn kC ?_) hdb)
  show wpAny _ _ (call (.ref C) []) _ _ _
  obtain ⟨bm, N, nm, qn, bs, hdct, sn, sub, ab, col, dd, k0, k1, k2, k3, k5, mN, hC, hN, hni, T⟩ := exc_obj I.kIn q
  exact wpAny_call_exc_subT EF T hC hN hni (fun h' e hm => mk_of I hm r h (I.hok.gone hm.new)) (Nat.zero_le _)
end

/-! ### fields -/
def putD (f : Str) (v : D) : List (Str × D) → List (Str × D)
  | [] => [(f, v)]
  | (g, x) :: r => if g = f then (g, v) :: r else (g, x) :: putD f v r
section
variable {K : PySem.W.Frag} {φ : Al} {H : Hp}
theorem RK.lookup {f : Str} : ∀ {fs : List (Str × D)} {ws : List (Str × V)}, RK K φ H fs ws → (∀ d, fs.lookup f = some d → ∃ v, ws.lookup f = some v ∧ RD K φ H d v) ∧ (fs.lookup f = none → ws.lookup f = none)
  | [], ws, h => by
    have : ws = [] := by have := h.1; simpa using this.symm
    subst this
    exact ⟨fun d e => by simp at e, fun _ => rfl⟩
  | (g, x) :: fs, [], h => by have := h.1; simp at this
  | (g, x) :: fs, (g2, v) :: ws, h => by
    obtain ⟨h1, h2⟩ := h
    simp only [List.map_cons, List.cons.injEq] at h1
    obtain ⟨rfl, h1⟩ := h1
    rw [List.map_cons, List.map_cons, RDs] at h2
    obtain ⟨v', r, e, r1, r2⟩ := h2
    cases e
    have ih := RK.lookup (f := f) (fs := fs) (ws := ws) ⟨h1, r2⟩
    by_cases e : f = g
    · subst e
      have l1 : ((f, x) :: fs).lookup f = some x := by simp [List.lookup]
      have l2 : ((f, v) :: ws).lookup f = some v := by simp [List.lookup]
      rw [l1, l2]
      exact ⟨fun d e => by cases e; exact ⟨v, rfl, r1⟩, fun e => by cases e⟩
    · have e' : (f == g) = false := by simpa using e
      have l1 : ((g, x) :: fs).lookup f = fs.lookup f := by simp [List.lookup, e']
      have l2 : ((g, v) :: ws).lookup f = ws.lookup f := by simp [List.lookup, e']
      rw [l1, l2]
      exact ih
theorem RK.put {f : Str} {d : D} {v : V} (rd : RD K φ H d v) : ∀ {fs : List (Str × D)} {ws : List (Str × V)}, RK K φ H fs ws → RK K φ H (putD f d fs) (putF f v ws)
  | [], ws, h => by
    have : ws = [] := by have := h.1; simpa using this.symm
    subst this
    exact ⟨rfl, .cons rd .nil⟩
  | (g, x) :: fs, [], h => by have := h.1; simp at this
  | (g, x) :: fs, (g2, u) :: ws, h => by
    obtain ⟨h1, h2⟩ := h
    simp only [List.map_cons, List.cons.injEq] at h1
    obtain ⟨rfl, h1⟩ := h1
    rw [List.map_cons, List.map_cons, RDs] at h2
    obtain ⟨v', r, e, r1, r2⟩ := h2
    cases e
    unfold putD putF
    by_cases e : g = f
    · rw [if_pos e, if_pos e]
      exact ⟨by simp [h1], .cons rd r2⟩
    · rw [if_neg e, if_neg e]
      obtain ⟨i1, i2⟩ := RK.put (f := f) rd (fs := fs) (ws := ws) ⟨h1, r2⟩
      exact ⟨by simp [i1], .cons r1 i2⟩
theorem RK.len {κ : Type} {fs : List (κ × D)} {ws : List (κ × V)} (h : RK K φ H fs ws) : ws.length = fs.length := by
  have := congrArg List.length h.1
  simpa using this.symm
end
section
variable {F : Fam} {W : WX} {o e : Expr} {es : List Expr} {to te : DTE} {t : DTA} {apos pos pos' : Pos} {f m x : Str} {C : Addr} {k : Nat} {fi : Addr} {fd : FuncData} {ps : List Str} {sp : DSp} {p : Pos}
/-- o.f, o an object of the store, of a class that P tells -/
def dFld (P : Addr → Prop) (f : Str) (to : DTE) : DTE := fun ρ S Q E => to ρ S (fun d S1 => ∃ n C fs v, d = .ref n ∧ S1[n]? = some (.ins C fs) ∧ P C ∧ fs.lookup f = some v ∧ Q v S1) E
theorem de_fld {P : Addr → Prop} (hP : ∀ C, P C → Cls F.K C ∧ NoAttr F.K C f) (ho : DE F W o to) (hb : ∀ i, attributeBase o f (F.X i).env (eval o (F.X i).env) = eval o (F.X i).env := by intro _; rfl) : DE F W (.Attribute o f pos) (dFld P f to) := by
  obtain ⟨t1, p1, k1⟩ := ho
  refine ⟨tFld F.K t1 f, fun i => F.hK i ▸ pe_fld (p1 i) (hb i), fun σ ρ φ S H E Q' Q o q h => ?_⟩
  refine k1 σ ρ φ S H E _ _ o (fun φ1 H1 S1 d v s1 r1 rd h1 => ?_) h
  obtain ⟨n, C, fs, u, rfl, e1, hC, e2, h1⟩ := h1
  obtain ⟨a, rfl, ha⟩ := rd_ref rd
  obtain ⟨dx, ws, hi, rk⟩ := r1.at_ n a _ ha e1
  obtain ⟨v, e3, rv⟩ := rk.lookup.1 u e2
  exact ⟨a, C, dx, ws, v, rfl, hi, (hP C hC).1, (hP C hC).2, e3, q φ1 H1 S1 _ _ s1 r1 rv h1⟩
/-- o.f = e -/
def dSetF (P : Addr → Prop) (f : Str) (to te : DTE) : DTS := fun D ρ S => te ρ S (fun d S1 => to ρ S1 (fun o S2 => ∃ n C fs, o = .ref n ∧ S2[n]? = some (.ins C fs) ∧ P C ∧ fs.length < 1000 ∧ D.nx ρ (S2.set n (.ins C (putD f d fs)))) (fun x S1 => D.ex x ρ S1)) (fun x S1 => D.ex x ρ S1)
theorem ds_fld {P : Addr → Prop} (hP : ∀ C, P C → Cls F.K C ∧ NoAttr F.K C f) (ho : DE F W o to) (he : DE F W e te) (hs : ∀ i, swapsWith e (some (.Attribute o f pos')) pos.line (F.X i).env = pure false := by intro _; rfl) :
    DS F W (.Assign [.Attribute o f pos'] e pos) (dSetF P f to te) := by
  obtain ⟨t1, p1, k1⟩ := ho
  obtain ⟨t2, p2, k2⟩ := he
  refine ⟨sFld F.K t1 t2 f, fun i => F.hK i ▸ ps_fld (p1 i) (p2 i) (hs i), fun σ ρ φ S H D' D r sl l h => ?_⟩
  have o0 := l.ok r sl
  refine k2 σ ρ φ S H _ _ _ o0 (fun φ1 H1 S1 d v s1 r1 rd h1 => ?_) h
  refine k1 σ ρ φ1 S1 H1 _ _ _ (o0.mono s1 r1) (fun φ2 H2 S2 ob ov s2 r2 ro h2 => ?_) h1
  obtain ⟨n, C, fs, rfl, e1, hC, hl, q⟩ := h2
  obtain ⟨a, rfl, ha⟩ := rd_ref ro
  obtain ⟨dx, ws, hi, rk⟩ := r2.at_ n a _ ha e1
  have rd2 := RD.mono s2 r1.muts _ _ rd
  have st := r2.step_put (ho := .ins C dx (putF f v ws)) ha
  refine ⟨a, C, dx, ws, rfl, hi, (hP C hC).1, (hP C hC).2, by rw [rk.len]; exact hl, ?_⟩
  exact l.nx _ _ _ _ _ ((s1.trans s2).trans st) (r2.put (o := .ins C (putD f d fs)) ha ⟨dx, _, upd_same, (rk.put rd2).mono st r2.muts⟩) (sl.mono ((s1.trans s2).trans st) r.muts) q
/-- o.f op= e -/
def dAugF (P : Addr → Prop) (f : Str) (to te : DTE) (r : D2) : DTS := fun D ρ S => to ρ S (fun o S1 => ∃ n C fs v, o = .ref n ∧ S1[n]? = some (.ins C fs) ∧ P C ∧ fs.lookup f = some v ∧ te ρ S1 (fun d S2 => r v d S2 fun z S3 => ∃ fs', S3[n]? = some (.ins C fs') ∧ fs'.length < 1000 ∧
  D.nx ρ (S3.set n (.ins C (putD f z fs')))) (fun x S1 => D.ex x ρ S1)) (fun x S1 => D.ex x ρ S1)
theorem ds_augF {P : Addr → Prop} {op : Operator} {r : R2} {r' : D2} (hP : ∀ C, P C → Cls F.K C ∧ NoAttr F.K C f) (hop : ∀ i, InOp (F.X i) op r) (lk : Lk F.K r' r) (ho : DE F W o to) (he : DE F W e te) : DS F W (.AugAssign (.Attribute o f pos') op e pos) (dAugF P f to te r') := by
  obtain ⟨t1, p1, k1⟩ := ho
  obtain ⟨t2, p2, k2⟩ := he
  refine ⟨sFldAug F.K t1 t2 r f, fun i => F.hK i ▸ ps_fldaug (p1 i) (p2 i) (hop i), fun σ ρ φ S H D' D r sl l h => ?_⟩
  have o0 := l.ok r sl
  refine k1 σ ρ φ S H _ _ _ o0 (fun φ1 H1 S1 ob ov s1 r1 ro h1 => ?_) h
  obtain ⟨n, C, fs, v, rfl, e1, hC, e2, h1⟩ := h1
  obtain ⟨a, rfl, ha⟩ := rd_ref ro
  obtain ⟨dx, ws, hi, rk⟩ := r1.at_ n a _ ha e1
  obtain ⟨u, e3, ru⟩ := rk.lookup.1 v e2
  refine ⟨a, C, dx, ws, u, rfl, hi, (hP C hC).1, (hP C hC).2, e3, ?_⟩
  refine k2 σ ρ φ1 S1 H1 _ _ _ (o0.mono s1 r1) (fun φ2 H2 S2 d w s2 r2 rd h2 => ?_) h1
  refine lk φ2 S2 H2 _ _ v d u w r2 (RD.mono s2 r1.muts _ _ ru) rd (fun φ3 H3 S3 z y s3 r3 rz h3 => ?_) h2
  obtain ⟨fs', e4, hl, q⟩ := h3
  have ha3 := (s2.trans s3).at ha
  obtain ⟨dx', ws', hi', rk'⟩ := r3.at_ n a _ ha3 e4
  have st := r3.step_put (ho := .ins C dx' (putF f y ws')) ha3
  refine ⟨dx', ws', hi', by rw [rk'.len]; exact hl, ?_⟩
  exact l.nx _ _ _ _ _ (((s1.trans s2).trans s3).trans st) (r3.put (o := .ins C (putD f z fs')) ha3 ⟨dx', _, upd_same, (rk'.put rz).mono st r3.muts⟩) (sl.mono (((s1.trans s2).trans s3).trans st) r.muts) q

/-! ### an object made, a method -/
def dMake (C : Addr) (sp : DSp) (t : DTA) : DTE := fun ρ S Q E => t ρ S (fun ds S1 => sp (.ref S1.length :: ds) (S1 ++ [.ins C []]) (fun d S2 => d = .non ∧ Q (.ref S1.length) S2) E) E
theorem make_link {K : PySem.W.Frag} {σ : L2.St} {ρ : Rho} {φ : Al} {S : Store} {H : Hp} {E : XQ} {Q' : QD} {Q : VK} {ds : List D} {vs : List V} (o : Ok K W σ ρ φ S H E) (q : EndV K φ H Q' Q) (rd : RDs K φ H ds vs) (h : sp (.ref S.length :: ds) (S ++ [.ins C []]) (fun d S2 => d = .non ∧ Q' (.ref S.length) S2) E) :
    ∀ x dx, H x = none → H dx = none → dx ≠ x → liftSp K sp (.ref x :: vs) (upd (upd H dx (.own x)) x (.ins C dx [])) (fun v H2 => v = .non ∧ Q (.ref x) H2) (WE W σ) := by
  intro x dx hx hdx ne
  have hx2 : upd H dx (.own x) x = none := by rw [upd_ne (Ne.symm ne)]; exact hx
  have s1 : Step φ φ H (upd H dx (.own x)) := step_new hdx
  have r1 : SR K φ S (upd H dx (.own x)) := o.sr.new hdx
  have s2 := step_push r1 (ho := .ins C dx []) hx2
  have r2 : SR K (φ.push x) (S ++ [.ins C []]) (upd (upd H dx (.own x)) x (.ins C dx [])) := r1.push (o := .ins C []) hx2 ⟨dx, [], upd_same, rfl, .nil⟩
  have s12 := s1.trans s2
  have rx : RD K (φ.push x) (upd (upd H dx (.own x)) x (.ins C dx [])) (.ref S.length) (.ref x) := by rw [RD]; exact ⟨x, rfl, by show (φ.l ++ [x])[S.length]? = _; rw [o.sr.len]; simp⟩
  refine ⟨φ.push x, S ++ [.ins C []], _, _, E, r2, .cons rx (RDs.mono s12 o.sr.muts _ _ rd), h, fun φ' H' S' d v s r rd' hh => ?_, (o.mono s12 r2).ex⟩
  obtain ⟨rfl, hh⟩ := hh
  rw [RD] at rd'
  exact ⟨rd', q _ _ _ _ _ (s12.trans s) r (RD.mono s r2.muts _ _ rx) hh⟩
theorem de_make (M : ∀ i, Mk (F.X i).K C fi) (G : ∀ i, FnOk (F.X i).prog (F.X i).w (F.X i).K (F.X i).mg (F.X i).base (L2.CX (F.X i).prog (F.X i).w) k fi fd ps (liftSp F.K sp)) (hr : ∀ i, Room (k + 1) (F.X i).A) (hg : ∀ i, Gl (F.X i) x) (hm : ∀ i, (F.X i).mg x = some (.ref C))
    (hb : ∀ i, Binds (F.X i).K fd ps []) (tk : ∀ i, Takes (F.X i) W) (ha : DA F W (e :: es) t) (hdb : (x == ("__debug__" : Str)) = false := by decide)
    (he : ∀ i, starEach (e :: es) (F.X i).env = (false, eval e (F.X i).env) :: starEach es (F.X i).env := by intro _; rfl) (hpl : ∀ i, (backTo pos (starEach es (F.X i).env)).any (·.1) = false := by intro _; rfl) :
    DE F W (.Call (.Name x p) (e :: es) [] pos) (dMake C sp t) := by
  obtain ⟨t1, p1, k1⟩ := ha
  refine ⟨_, fun i => pe_makeS' (M i) (G i) (hr i) (hg i) (hm i) (hb i) (fun σ => passAt (tk i) σ) (p1 i) hdb (he i) (hpl i), fun σ ρ φ S H E Q' Q o q h => ?_⟩
  exact k1 σ ρ φ S H E _ _ o (fun φ1 H1 S1 ds vs s1 r1 rd h1 => make_link (o.mono s1 r1) (q.mono s1) rd h1) h
theorem de_make0 (M : ∀ i, Mk (F.X i).K C fi) (G : ∀ i, FnOk (F.X i).prog (F.X i).w (F.X i).K (F.X i).mg (F.X i).base (L2.CX (F.X i).prog (F.X i).w) k fi fd ps (liftSp F.K sp)) (hr : ∀ i, Room (k + 1) (F.X i).A) (hg : ∀ i, Gl (F.X i) x) (hm : ∀ i, (F.X i).mg x = some (.ref C))
    (hb : ∀ i, Binds (F.X i).K fd ps []) (tk : ∀ i, Takes (F.X i) W) (hdb : (x == ("__debug__" : Str)) = false := by decide) : DE F W (.Call (.Name x p) [] [] pos) (dMake C sp dNil) :=
  ⟨_, fun i => pe_makeS0' (M i) (G i) (hr i) (hg i) (hm i) (hb i) (fun σ => passAt (tk i) σ) hdb, fun σ ρ φ S H E Q' Q o q h => make_link o q .nil h⟩
theorem de_call0 {f : Addr} (G : ∀ i, FnOk (F.X i).prog (F.X i).w (F.X i).K (F.X i).mg (F.X i).base (L2.CX (F.X i).prog (F.X i).w) k f fd ps (liftSp F.K sp)) (hr : ∀ i, Room k (F.X i).A) (hg : ∀ i, Gl (F.X i) x) (hm : ∀ i, (F.X i).mg x = some (.ref f))
    (hk : ∀ i, PySem.W.keepIn (F.X i).K (.ref f) = true) (hb : ∀ i, Binds (F.X i).K fd ps []) (tk : ∀ i, Takes (F.X i) W) (hdb : (x == ("__debug__" : Str)) = false := by decide) : DE F W (.Call (.Name x p) [] [] pos) (dCall sp dNil) :=
  ⟨_, fun i => pe_callS0' (G i) (hr i) (hg i) (hm i) (hk i) (hb i) (fun σ => passAt (tk i) σ) hdb, fun σ ρ φ S H E Q' Q o q h => call_link o q .nil h⟩
def dMeth (C : Addr) (m : Str) (sp : DSp) (to : DTE) (t : DTA) : DTE := fun ρ S Q E => to ρ S (fun o S1 => ∃ n fs, o = .ref n ∧ S1[n]? = some (.ins C fs) ∧ fs.lookup m = none ∧ t ρ S1 (fun ds S2 => sp (o :: ds) S2 Q E) E) E
theorem de_meth (c : Cls F.K C) (hm : Meth F.K C m fi) (G : ∀ i, FnOk (F.X i).prog (F.X i).w (F.X i).K (F.X i).mg (F.X i).base (L2.CX (F.X i).prog (F.X i).w) k fi fd ps (liftSp F.K sp)) (hr : ∀ i, Room k (F.X i).A) (hb : ∀ i, Binds (F.X i).K fd ps [])
    (tk : ∀ i, Takes (F.X i) W) (ho : DE F W o to) (ha : DA F W (e :: es) t)
    (hst : ∀ i, starEach (e :: es) (F.X i).env = (false, eval e (F.X i).env) :: starEach es (F.X i).env := by intro _; rfl) (hpl : ∀ i, (backTo pos (starEach es (F.X i).env)).any (·.1) = false := by intro _; rfl)
    (ht : ∀ i, eval (.Call (.Attribute o m apos) (e :: es) [] pos) (F.X i).env = (do
      let ov ← eval o (F.X i).env
      standAt apos.atName
      let (f, first) ← holding [ov] (getMethod ov m (do return (← importBound o (F.X i).env).getD true))
      callWith pos f first (backTo pos (starEach (e :: es) (F.X i).env)) (backToKw pos (keywordEach [] (F.X i).env))) := by intro _; rfl) : DE F W (.Call (.Attribute o m apos) (e :: es) [] pos) (dMeth C m sp to t) := by
  obtain ⟨t1, p1, k1⟩ := ho
  obtain ⟨t2, p2, k2⟩ := ha
  refine ⟨tMethSS C m (liftSp F.K sp) (WE W) t1 t2, fun i => pe_methSS' (p1 i) ((F.hK i).symm ▸ c) ((F.hK i).symm ▸ hm) (G i) (hr i) (hb i) (fun σ => passAt (tk i) σ) (p2 i) (hst i) (hpl i) (ht i), fun σ ρ φ S H E Q' Q o q h => ?_⟩
  refine k1 σ ρ φ S H E _ _ o (fun φ1 H1 S1 d v s1 r1 rd h1 => ?_) h
  obtain ⟨n, fs, rfl, e1, e2, h1⟩ := h1
  obtain ⟨a, rfl, ha⟩ := rd_ref rd
  obtain ⟨dx, ws, hi, rk⟩ := r1.at_ n a _ ha e1
  refine ⟨a, dx, ws, rfl, hi, rk.lookup.2 e2, ?_⟩
  refine k2 σ ρ φ1 S1 H1 E _ _ (o.mono s1 r1) (fun φ2 H2 S2 ds vs s2 r2 rds h2 => ?_) h1
  exact call_link (o.mono (s1.trans s2) r2) (q.mono (s1.trans s2)) (.cons (RD.mono s2 r1.muts _ _ rd) rds) h2
theorem de_meth0 (c : Cls F.K C) (hm : Meth F.K C m fi) (G : ∀ i, FnOk (F.X i).prog (F.X i).w (F.X i).K (F.X i).mg (F.X i).base (L2.CX (F.X i).prog (F.X i).w) k fi fd ps (liftSp F.K sp)) (hr : ∀ i, Room k (F.X i).A) (hb : ∀ i, Binds (F.X i).K fd ps [])
    (tk : ∀ i, Takes (F.X i) W) (ho : DE F W o to)
    (ht : ∀ i, eval (.Call (.Attribute o m apos) [] [] pos) (F.X i).env = (do
      let ov ← eval o (F.X i).env
      standAt apos.atName
      let (f, first) ← holding [ov] (getMethod ov m (do return (← importBound o (F.X i).env).getD true))
      callWith pos f first (backTo pos (starEach [] (F.X i).env)) (backToKw pos (keywordEach [] (F.X i).env))) := by intro _; rfl) : DE F W (.Call (.Attribute o m apos) [] [] pos) (dMeth C m sp to dNil) := by
  obtain ⟨t1, p1, k1⟩ := ho
  refine ⟨tMethSS C m (liftSp F.K sp) (WE W) t1 tNil, fun i => pe_methSS0' (p1 i) ((F.hK i).symm ▸ c) ((F.hK i).symm ▸ hm) (G i) (hr i) (hb i) (fun σ => passAt (tk i) σ) (ht i), fun σ ρ φ S H E Q' Q o q h => ?_⟩
  refine k1 σ ρ φ S H E _ _ o (fun φ1 H1 S1 d v s1 r1 rd h1 => ?_) h
  obtain ⟨n, fs, rfl, e1, e2, h1⟩ := h1
  obtain ⟨a, rfl, ha⟩ := rd_ref rd
  obtain ⟨dx, ws, hi, rk⟩ := r1.at_ n a _ ha e1
  exact ⟨a, dx, ws, rfl, hi, rk.lookup.2 e2, call_link (o.mono s1 r1) (q.mono s1) (.cons rd .nil) h1⟩
end
end Dy
namespace Dy
open PySem PySem.Spec PyProof.Rows L2

/-! ### error classes -/
abbrev veL : List Value := [.type "ValueError", .type "Exception", .type "BaseException", .type "object"]
/-- an own error class at C -/
structure ErrC (K : PySem.W.Frag) (C : Addr) : Prop where
  kp : PySem.W.keepIn K (.ref C) = true
  sub : PySem.W.subIn K (.ref C) (.type "BaseException") = some true
  ty : PySem.W.typeIn K (.ref C) = some (.type "type")
/-- .. without an __init__ of its own -/
structure ErrN (K : PySem.W.Frag) (C : Addr) : Prop extends ErrC K C where
  ex : PySem.W.excIn K C veL "ValueError.__new__" = true
/-- .. that keeps its one argument as f; its __init__ at fI -/
structure ErrF (K : PySem.W.Frag) (C : Addr) (f : Str) (fI : Addr) : Prop extends ErrC K C where
  cls : ∃ nm q N bs bm sn sub ab col dd k0 k1 k2 k3 k5, K.lookup C = some (excClassObj nm q C N bs bm true sn sub ab col dd k0 k1 k2 k3 k5 "ValueError.__new__") ∧ PySem.HandSPX.refsVE bm = true
  sa : PySem.W.findIn K (.ref C) "__setattr__" = some (some (.builtin "object.__setattr__"))
  nof : PySem.W.findIn K (.ref C) f = some none
  init : PySem.W.findIn K (.ref C) "__init__" = some (some (.ref fI))
  tI : PySem.W.typeIn K (.ref fI) = some (.type "function")
theorem ErrF.oex {K : PySem.W.Frag} {C fI : Addr} {f : Str} (e : ErrF K C f fI) : OexC K C := ⟨e.cls, e.sa, e.sub, e.ty, e.kp⟩
theorem ErrC.raises {X : Cx} {C : Addr} (e : ErrC X.K C) : Raises X (.ref C) := raises_own e.sub e.ty
/-- the promise of such an __init__ -/
def spEI (C : Addr) (f : Str) : Sp := fun vs H Q _ => ∃ a v, vs = [.ref a, v] ∧ H a = some (exo a C none) ∧ ∀ dx, H dx = none → dx ≠ a → Q .non (upd (upd H dx (exd dx [(f, v)])) a (exo a C (some dx)))
section
variable {P : Program} {w : World} {K : PySem.W.Frag} {mg : Str → Option Value} {base : Heap}
theorem err_init {qual f : Str} {st : Stmt} {C fI : Addr} {fd : FuncData} {p1 p2 p3 p4 : Pos} (F : Fun K "__init__" qual st fI fd) (S : FnScope ["self", f] ["self", f] (defScope st))
    (hb : defBody st = [.Assign [.Attribute (.Name "self" p1) f p2] (.Name f p3) p4]) (T : ErrF K C f fI) (h1 : (f == ("__debug__" : Str)) = false := by decide) (h2 : (f == ("__classdict__" : Str)) = false := by decide) : FnOk P w K mg base (L2.CX P w) 1 fI fd ["self", f] (spEI C f) := by
  refine F.okX S (fun vs H Q E h => ?_) (fun cdv A outer s H vs Q E hr h => ?_)
  · obtain ⟨a, v, rfl, _⟩ := h
    rfl
  · obtain ⟨a, v, rfl, ha, q⟩ := h
    rw [hb]
    have v1 : Vis (defScope st) "self" := by
      rcases S.par "self" (by simp) with z | z
      · exact .inl z
      · exact .inr (.inl z)
    have v2 : Vis (defScope st) f := by
      rcases S.par f (by simp) with z | z
      · exact .inl z
      · exact .inr (.inl z)
    refine ⟨_, pss_one (ps_ost (pe_var (i := 0) rfl v1) (pe_var (i := 1) rfl v2 h1 h2)), ?_⟩
    exact ⟨v, rfl, _, rfl, a, C, rfl, T.oex, T.nof, .inl ⟨ha, fun dx hdx ne => q dx hdx ne⟩⟩
end

/-! ### raise -/
section
variable {F : Fam} {W : WX} {e : Expr} {te : DTE} {x f : Str} {C fI : Addr} {p pos pos2 : Pos} {fd : FuncData} {k : Nat}
def dRaise0 (C : Addr) : DTS := fun D ρ S => D.ex ⟨C, none⟩ ρ S
theorem ds_raise0 (hc : ∀ i, (F.X i).calm = true) (T : ErrN F.K C) (tk : ∀ i, Takes (F.X i) W) (hm : ∀ i, (F.X i).mg x = some (.ref C)) (hg : ∀ i, Gl (F.X i) x := by intro _; rfl) (hdb : (x == ("__debug__" : Str)) = false := by decide) :
    DS F W (.Raise (some (.Call (.Name x p) [] [] pos)) none pos2) (dRaise0 C) := by
  refine ⟨fun _ σ H => W (.ref C) none σ H, fun i => ?_, fun σ ρ φ S H D' D r sl l h => l.ex _ _ _ _ _ ⟨C, none⟩ _ _ .refl r sl ⟨rfl, rfl⟩ h⟩
  have T' : ErrN (F.X i).K C := by rw [F.hK]; exact T
  exact ps_raise (hc i) (tk i) (pmk_own0' PySem.F.excBase_ValueError T'.ex (hm i) T'.kp T'.raises (hg i) hdb)
def dRaiseF (C : Addr) (f : Str) (te : DTE) : DTS := fun D ρ S => te ρ S (fun d S1 => D.ex ⟨C, some [(f, d)]⟩ ρ S1) (fun x S1 => D.ex x ρ S1)
theorem ds_raiseF (hc : ∀ i, (F.X i).calm = true) (T : ErrF F.K C f fI) (tk : ∀ i, Takes (F.X i) W) (hm : ∀ i, (F.X i).mg x = some (.ref C)) (G : ∀ i, FnOk (F.X i).prog (F.X i).w (F.X i).K (F.X i).mg (F.X i).base (L2.CX (F.X i).prog (F.X i).w) k fI fd ["self", f] (spEI C f)) (hr : ∀ i, Room (k + 1) (F.X i).A) (hb : ∀ i, Binds (F.X i).K fd ["self", f] [])
    (he : DE F W e te) (hg : ∀ i, Gl (F.X i) x := by intro _; rfl) (hdb : (x == ("__debug__" : Str)) = false := by decide)
    (hs : ∀ i, starEach [e] (F.X i).env = (false, eval e (F.X i).env) :: starEach [] (F.X i).env := by intro _; rfl) (hpl : ∀ i, (backTo pos (starEach [] (F.X i).env)).any (·.1) = false := by intro _; rfl) :
    DS F W (.Raise (some (.Call (.Name x p) [e] [] pos)) none pos2) (dRaiseF C f te) := by
  obtain ⟨t1, p1, k1⟩ := he
  refine ⟨fun _ σ H => tMkO C (spEI C f) [] (tCons t1 tNil) σ H fun cls d H' => W cls d σ H', fun i => ?_, fun σ ρ φ S H D' D r sl l h => ?_⟩
  · have T' : OexC (F.X i).K C := by rw [F.hK]; exact T.oex
    exact ps_raise (hc i) (tk i) (pmk_oex T' (by rw [F.hK]; exact T.init) (by rw [F.hK]; exact T.tI) (G i) (hr i) (hb i) .nil passL (hg i) (hm i) (pa_cons (p1 i) pa_nil (hs i)) hdb (hs i) (hpl i))
  · refine k1 σ ρ φ S H _ _ _ (l.ok r sl) (fun φ1 H1 S1 d v s1 r1 rd h1 => ?_) h
    refine ⟨by show 1 ≤ 1000; decide, fun a ha => ⟨a, v, rfl, upd_same, fun dx hdx ne => ⟨rfl, dx, [(f, v)], upd_same, ?_, ?_, ?_⟩⟩⟩
    · rw [upd_ne ne, upd_same]
    · rw [upd_ne ne] at hdx; exact hdx
    · have hdx' : H1 dx = none := by rw [upd_ne ne] at hdx; exact hdx
      have e : upd (del (upd (upd (upd H1 a (L2.exo a C none)) dx (exd dx [(f, v)])) a (L2.exo a C (some dx))) a) dx (.xd [(f, v)]) = upd H1 dx (.xd [(f, v)]) := by
        funext b
        by_cases q : b = dx
        · subst q; rw [upd_same, upd_same]
        · rw [upd_ne q, upd_ne q]
          by_cases q2 : b = a
          · subst q2; rw [del_same, ha]
          · rw [del_ne q2, upd_ne q2, upd_ne q, upd_ne q2]
      rw [e]
      have st : Step φ1 φ1 H1 (upd H1 dx (.xd [(f, v)])) := step_new hdx'
      exact l.ex _ _ _ _ _ ⟨C, some [(f, d)]⟩ _ _ (s1.trans st) (r1.new hdx') ((sl.mono s1 r.muts).mono st r1.muts) ⟨rfl, dx, [(f, v)], rfl, upd_same, rfl, .cons (RD.mono st r1.muts _ _ rd) .nil⟩ h1
end

/-! ### try .. except X as n, except X -/
/-- the caught error as a value -/
def exV (a : Addr) (d : Option Addr) (x : Exc) : D := match x.fs, d with
  | some fs, some dd => .exo a dd (fs.map (·.1)) (fs.map (·.2))
  | _, _ => .cls a
theorem zip_map {κ : Type} : ∀ ws : List (κ × V), (ws.map (·.1)).zip (ws.map (·.2)) = ws
  | [] => rfl
  | w :: ws => by simp [zip_map ws]
theorem exV_rd {K : PySem.W.Frag} {φ : Al} {H : Hp} {x : Exc} {cls : Value} {d : Option Addr} (h : ExR K φ H x cls d) (a : Addr) : RD K φ H (exV a d x) (.ref a) := by
  obtain ⟨C, fs⟩ := x
  obtain ⟨_, h⟩ := h
  cases fs with
  | none => unfold exV; rw [RD]
  | some fs =>
    obtain ⟨dd, ws, rfl, h1, h2, h3⟩ := h
    show RD K φ H (.exo a dd (fs.map (·.1)) (fs.map (·.2))) (.ref a)
    rw [RD]
    refine ⟨ws.map (·.2), rfl, ?_, ?_, h3⟩
    · have h2' : fs.map (·.1) = ws.map (·.1) := h2
      rw [h2', zip_map]; exact h1
    · have := congrArg List.length h2
      simpa using this
section
variable {F : Fam} {W : WX} {x n : Str} {c : Value} {i : Nat} {body suite : List Stmt} {b0 : Stmt} {np pos pos' : Pos} {tb : DTS} {ts : Addr → Exc → Option Addr → DTS}
/-- the contexts of a try's body, of an except suite -/
def Fam.tr (F : Fam) (W' : WX) : Fam := ⟨Σ' (i : F.ι) (pn : List (Addr × Obj)) (xe : Value → Shared → Prop), Takes ((F.X i).tr pn xe) W' ∧ PassesOwn (model (F.X i).prog (F.X i).w) (F.X i).A (F.X i).env xe, fun j => (F.X j.1).tr j.2.1 j.2.2.1, F.K, fun j => F.hK j.1⟩
def Fam.su (F : Fam) (a : Addr) (cls : Value) (d : Option Addr) : Fam := ⟨Σ' (i : F.ι) (oe : Obj) (pn : List (Addr × Obj)), Zc cls d oe ∧ ∃ vs, oe.data = .fields vs, fun j => (F.X j.1).suite a ((a, j.2.1) :: j.2.2.1), F.K, fun j => F.hK j.1⟩
/-- em: of which classes the clause takes the errors -/
theorem ExR.some {K : PySem.W.Frag} {φ : Al} {H : Hp} {x : Exc} {cls : Value} {d : Option Addr} (h : ExR K φ H x cls d) : d.isSome = x.fs.isSome := by
  obtain ⟨C, fs⟩ := x
  obtain ⟨_, h⟩ := h
  cases fs with
  | none => have h : d = none := h; subst h; rfl
  | some fs => obtain ⟨dd, ws, rfl, _⟩ := h; rfl
def dTryAs (em : Addr → Option Bool) (i : Nat) (tb : DTS) (ts : Addr → Exc → Option Addr → DTS) : DTS := fun D ρ S =>
  tb { D with ex := fun x ρ1 S1 => ∃ b, em x.C = some b ∧ (b = true → ∀ a d, d.isSome = x.fs.isSome → ts a x d { D with nx := fun ρ2 S2 => D.nx (ρ2.set i none) S2, bk := fun ρ2 S2 => D.bk (ρ2.set i none) S2, ct := fun ρ2 S2 => D.ct (ρ2.set i none) S2, ex := fun _ _ _ => False } (ρ1.set i (some (exV a d x))) S1) ∧ (b = false → D.ex x ρ1 S1) } ρ S
def dTryO (em : Addr → Option Bool) (tb : DTS) (ts : Addr → Exc → Option Addr → DTS) : DTS := fun D ρ S =>
  tb { D with ex := fun x ρ1 S1 => ∃ b, em x.C = some b ∧ (b = true → ∀ a d, d.isSome = x.fs.isSome → ts a x d { D with ex := fun _ _ _ => False } ρ1 S1) ∧ (b = false → D.ex x ρ1 S1) } ρ S
theorem ds_tryAs (i : Nat) {em : Addr → Option Bool} (hem : ∀ C b, em C = some b → PySem.W.exmOne F.K (.ref C) c = some b) (hs : ∀ j, (F.X j).stack = (F.X j).env :: (F.X j).outer) (hf : ∀ j, (F.X j).env.frame = some (F.X j).env.locals) (hN : ∀ j, (F.X j).N.Nodup)
    (hc : ∀ j, Names (F.X j) x c) (tk : ∀ j, Takes (F.X j) W) (hb : ∀ W', DSs (F.tr W') W' body tb) (hsu : ∀ a x d, DSs (F.su a (.ref x.C) d) W0 (b0 :: suite) (ts a x d))
    (hi : ∀ j, (F.X j).N[i]? = some n := by intro _; rfl) (hln : ∀ j, (F.X j).env.kindOf n = some .local := by intro _; rfl) :
    DS F W (.Try body [.ExceptHandler (some (.Name x np)) (some n) (b0 :: suite) pos'] [] [] pos) (dTryAs em i tb ts) := by
  have hb' : ∀ W', ∃ t : TS, (∀ j, PSs ((F.tr W').X j) body t) ∧ ∀ σ ρ φ S H D' D, SR F.K φ S H → Sl F.K φ H ρ σ → Lnk F.K W' φ H D' D → tb D' ρ S → t D σ H := hb
  -- the suite's reading by values: for every error that it may be
  let tsV : Addr → Value → Option Addr → TS := fun a cls d D σ H => ∃ y : Exc, cls = .ref y.C ∧ (Classical.choose (hsu a y d)) D σ H
  have hsV : ∀ (j : F.ι) (a : Addr) (oe : Obj) (cls : Value) (d : Option Addr) (pn : List (Addr × Obj)), Zc cls d oe → (∃ vs, oe.data = .fields vs) → PSs ((F.X j).suite a ((a, oe) :: pn)) (b0 :: suite) (tsV a cls d) := by
    intro j a oe cls d pn z fv
    refine ⟨fun pins s σ H D I h => ?_⟩
    obtain ⟨y, rfl, h⟩ := h
    exact ((Classical.choose_spec (hsu a y d)).1 ⟨j, oe, pn, z, fv⟩).run pins s σ H D I h
  refine ⟨fun D σ H => (Classical.choose (hb' (wAs F.K c i tsV W D))) D σ H, fun j => ?_, fun σ ρ φ S H D' D r sl l h => ?_⟩
  · have := ps_try_as (i := i) (tb := fun W' => Classical.choose (hb' W')) (ts := tsV) (pos := pos) (pos' := pos') (np := np) (hs j) (hf j) (hN j) (hi j) (hln j) (hc j) (tk j) (fun W' pn xe tk' pa => (Classical.choose_spec (hb' W')).1 ⟨j, pn, xe, tk', pa⟩) (hsV j)
    rw [F.hK j] at this
    exact this
  · refine (Classical.choose_spec (hb' (wAs F.K c i tsV W D))).2 σ ρ φ S H { D' with ex := fun x ρ1 S1 => ∃ b, em x.C = some b ∧ (b = true → ∀ a d, d.isSome = x.fs.isSome → ts a x d { D' with nx := fun ρ2 S2 => D'.nx (ρ2.set i none) S2, bk := fun ρ2 S2 => D'.bk (ρ2.set i none) S2, ct := fun ρ2 S2 => D'.ct (ρ2.set i none) S2, ex := fun _ _ _ => False } (ρ1.set i (some (exV a d x))) S1) ∧ (b = false → D'.ex x ρ1 S1) } D r sl ⟨l.nx, l.rt, l.bk, l.ct, ?_⟩ h
    intro φ1 H1 S1 ρ1 σ1 y cls d s1 r1 sl1 xr hh
    obtain ⟨b, eb, h1, h2⟩ := hh
    have ec : cls = .ref y.C := xr.1
    subst ec
    refine ⟨b, hem _ _ eb, fun e a ha => ⟨y, rfl, ?_⟩, fun e => l.ex _ _ _ _ _ _ _ _ s1 r1 sl1 xr (h2 e)⟩
    refine (Classical.choose_spec (hsu a y d)).2 _ _ φ1 S1 H1 _ _ r1 (sl1.set (exV_rd xr a)) ?_ (h1 e a d xr.some)
    have l1 := l.mono s1
    exact ⟨fun _ _ _ _ _ s r sl q => l1.nx _ _ _ _ _ s r sl.unset q, l1.rt, fun _ _ _ _ _ s r sl q => l1.bk _ _ _ _ _ s r sl.unset q, fun _ _ _ _ _ s r sl q => l1.ct _ _ _ _ _ s r sl.unset q, fun _ _ _ _ _ _ _ _ _ _ _ _ z => z.elim⟩
theorem ds_tryO {em : Addr → Option Bool} (hem : ∀ C b, em C = some b → PySem.W.exmOne F.K (.ref C) c = some b) (hs : ∀ j, (F.X j).stack = (F.X j).env :: (F.X j).outer) (hf : ∀ j, (F.X j).env.frame = some (F.X j).env.locals)
    (hc : ∀ j, Names (F.X j) x c) (tk : ∀ j, Takes (F.X j) W) (hb : ∀ W', DSs (F.tr W') W' body tb) (hsu : ∀ a x d, DSs (F.su a (.ref x.C) d) W0 (b0 :: suite) (ts a x d)) :
    DS F W (.Try body [.ExceptHandler (some (.Name x np)) none (b0 :: suite) pos'] [] [] pos) (dTryO em tb ts) := by
  have hb' : ∀ W', ∃ t : TS, (∀ j, PSs ((F.tr W').X j) body t) ∧ ∀ σ ρ φ S H D' D, SR F.K φ S H → Sl F.K φ H ρ σ → Lnk F.K W' φ H D' D → tb D' ρ S → t D σ H := hb
  let tsV : Addr → Value → Option Addr → TS := fun a cls d D σ H => ∃ y : Exc, cls = .ref y.C ∧ (Classical.choose (hsu a y d)) D σ H
  have hsV : ∀ (j : F.ι) (a : Addr) (oe : Obj) (cls : Value) (d : Option Addr) (pn : List (Addr × Obj)), Zc cls d oe → (∃ vs, oe.data = .fields vs) → PSs ((F.X j).suite a ((a, oe) :: pn)) (b0 :: suite) (tsV a cls d) := by
    intro j a oe cls d pn z fv
    refine ⟨fun pins s σ H D I h => ?_⟩
    obtain ⟨y, rfl, h⟩ := h
    exact ((Classical.choose_spec (hsu a y d)).1 ⟨j, oe, pn, z, fv⟩).run pins s σ H D I h
  refine ⟨fun D σ H => (Classical.choose (hb' (wOnly F.K c tsV W D))) D σ H, fun j => ?_, fun σ ρ φ S H D' D r sl l h => ?_⟩
  · have := ps_try_only (tb := fun W' => Classical.choose (hb' W')) (ts := tsV) (pos := pos) (pos' := pos') (np := np) (hs j) (hf j) (hc j) (tk j) (fun W' pn xe tk' pa => (Classical.choose_spec (hb' W')).1 ⟨j, pn, xe, tk', pa⟩) (hsV j)
    rw [F.hK j] at this
    exact this
  · refine (Classical.choose_spec (hb' (wOnly F.K c tsV W D))).2 σ ρ φ S H { D' with ex := fun x ρ1 S1 => ∃ b, em x.C = some b ∧ (b = true → ∀ a d, d.isSome = x.fs.isSome → ts a x d { D' with ex := fun _ _ _ => False } ρ1 S1) ∧ (b = false → D'.ex x ρ1 S1) } D r sl ⟨l.nx, l.rt, l.bk, l.ct, ?_⟩ h
    intro φ1 H1 S1 ρ1 σ1 y cls d s1 r1 sl1 xr hh
    obtain ⟨b, eb, h1, h2⟩ := hh
    have ec : cls = .ref y.C := xr.1
    subst ec
    refine ⟨b, hem _ _ eb, fun e a ha => ⟨y, rfl, ?_⟩, fun e => l.ex _ _ _ _ _ _ _ _ s1 r1 sl1 xr (h2 e)⟩
    refine (Classical.choose_spec (hsu a y d)).2 _ _ φ1 S1 H1 _ _ r1 sl1 ?_ (h1 e a d xr.some)
    have l1 := l.mono s1
    exact ⟨l1.nx, l1.rt, l1.bk, l1.ct, fun _ _ _ _ _ _ _ _ _ _ _ _ z => z.elim⟩
end

/-! ### in an except suite: e.f, isinstance(e, C) -/
section
variable {F : Fam} {W : WX} {a : Addr} {C : Addr} {d : Option Addr} {e : Expr} {te : DTE} {f : Str} {pos : Pos}
def dXf (f : Str) (te : DTE) : DTE := fun ρ S Q E => te ρ S (fun v S1 => ∃ a d ks xs u, v = .exo a d ks xs ∧ (ks.zip xs).lookup f = some u ∧ Q u S1) E
theorem zip_lookup {K : PySem.W.Frag} {φ : Al} {H : Hp} {f : Str} {u : D} : ∀ {ks : List Str} {xs : List D} {vs : List V}, RDs K φ H xs vs → (ks.zip xs).lookup f = some u → ∃ v, (ks.zip vs).lookup f = some v ∧ RD K φ H u v
  | [], xs, vs, _, h => by simp at h
  | k :: ks, [], vs, _, h => by simp at h
  | k :: ks, x :: xs, vs, r, h => by
    rw [RDs] at r
    obtain ⟨v, vs', rfl, r1, r2⟩ := r
    rw [List.zip_cons_cons] at h ⊢
    by_cases e : f = k
    · subst e
      have l1 : ((f, x) :: ks.zip xs).lookup f = some x := by simp [List.lookup]
      have l2 : ((f, v) :: ks.zip vs').lookup f = some v := by simp [List.lookup]
      rw [l1] at h
      cases h
      exact ⟨v, l2, r1⟩
    · have e' : (f == k) = false := by simpa using e
      have l1 : ((k, x) :: ks.zip xs).lookup f = (ks.zip xs).lookup f := by simp [List.lookup, e']
      have l2 : ((k, v) :: ks.zip vs').lookup f = (ks.zip vs').lookup f := by simp [List.lookup, e']
      rw [l1] at h
      rw [l2]
      exact zip_lookup r2 h
/-- the suite's own error is what e is worth; d tells where its dict is -/
theorem de_xf {dd : Addr} (T : XfC F.K C) (hno : PySem.W.findIn F.K (.ref C) f = some none) (he : DE (F.su a (.ref C) (some dd)) W e te) (hb : ∀ i, attributeBase e f ((F.su a (.ref C) (some dd)).X i).env (eval e ((F.su a (.ref C) (some dd)).X i).env) = eval e ((F.su a (.ref C) (some dd)).X i).env := by intro _; rfl) :
    DE (F.su a (.ref C) (some dd)) W (.Attribute e f pos) (fun ρ S Q E => te ρ S (fun v S1 => ∃ ks xs u, v = .exo a dd ks xs ∧ (ks.zip xs).lookup f = some u ∧ Q u S1) E) := by
  obtain ⟨t1, p1, k1⟩ := he
  refine ⟨tXf a (.ref C) (some dd) C f t1, fun j => ?_, fun σ ρ φ S H E Q' Q o q h => ?_⟩
  · obtain ⟨i, oe, pn, z, fv⟩ := j
    have T' : XfC (F.X i).K C := by rw [F.hK]; exact T
    exact pe_xf T' (by rw [F.hK]; exact hno) z fv (p1 ⟨i, oe, pn, z, fv⟩) (hb ⟨i, oe, pn, z, fv⟩)
  · refine k1 σ ρ φ S H E _ _ o (fun φ1 H1 S1 v u s1 r1 rd h1 => ?_) h
    obtain ⟨ks, xs, y, rfl, el, h1⟩ := h1
    rw [RD] at rd
    obtain ⟨vs, rfl, e1, hl, rs⟩ := rd
    obtain ⟨w, e2, rw'⟩ := zip_lookup rs el
    exact ⟨rfl, rfl, dd, _, w, rfl, e1, e2, q φ1 H1 S1 _ _ s1 r1 rw' h1⟩
/-- what a class must say so that isinstance asks its errors rightly -/
structure ExcI (K : PySem.W.Frag) (C : Addr) : Prop where
  cl : (PySem.W.clsIn K C).isSome = true
  ga : PySem.W.findIn K (.ref C) "__getattribute__" = some (some (.builtin "BaseException.__getattribute__"))
  gg : PySem.W.findIn K (.ref C) "__getattr__" = some none
  sub : PySem.W.subIn K (.ref C) (.type "BaseException") = some true
  ca : PySem.W.findIn K (.ref C) "__class__" = some (some (.builtin "object.__class__"))
  cn : PySem.W.specialIn K (.builtin "object.__class__") "__get__" = some (some (.builtin "getset_descriptor.__get__"))
  ck : PySem.W.takesIn K (.builtin "object.__class__") = some true
  cm : PySem.W.mroIn K C (.type "object") = some true
/-- isinstance(e, c): the error at a, its dict -/
def rIsX (K : PySem.W.Frag) (C a : Addr) (d : Option Addr) : List V → Hp → VK → Prop := fun xs H Q => ∃ (c : V) (cv : Value) (b : Bool), xs = [.ref a, c] ∧ ClsV c cv ∧ PySem.W.kitOne K (.ref C) cv = some b ∧ (∀ dd, d = some dd → ∃ fs, H dd = some (.xd fs)) ∧ Q (.bl b) H
theorem call_isX {X : Cx} {oe : Obj} {pn : List (Addr × Obj)} (T : ExcI X.K C) (hz : Zc (.ref C) d oe) (hf : ∃ vs, oe.data = .fields vs) : CallR (X.suite a ((a, oe) :: pn)) (.builtin "isinstance") (rIsX X.K C a d) := by
  intro pins s σ H xs us Q I r h
  obtain ⟨c, cv, b, rfl, hcv, e, hd, q⟩ := h
  obtain ⟨u1, u2, rfl, r1, r2⟩ := vals2 r
  cases (show u1 = Value.ref a from r1)
  have ec := hcv.eq r2
  subst ec
  obtain ⟨hget, _⟩ := I.pin (a, oe) (List.mem_append.mpr (.inl List.mem_cons_self))
  obtain ⟨vs, hv⟩ := hf
  obtain ⟨oc, od, oda, osl⟩ := oe
  obtain ⟨h1, h2⟩ := hz
  dsimp only at h1 h2 hv
  subst h1 h2 hv
  have done : ∀ tk, EP (X.suite a ((a, ⟨.ref C, od, .fields vs, osl⟩) :: pn)) pins σ Q (.bool b) { s with toks := tk } := fun tk => ⟨.bl b, H, I.tok tk, rfl, q⟩
  have nb : Value.ref a ≠ .builtin "__main__.__loader__#opaque" := fun z => nomatch z
  cases od with
  | none => exact PySem.W.kia_one (PySem.W.kitx_exc (ox := ⟨.ref C, none, .fields vs, osl⟩) (od := none) T.cl T.ga T.gg T.sub T.ca T.cn T.ck T.cm) I.kIn ⟨hget, rfl, rfl, trivial⟩ e nb done
  | some dd =>
    obtain ⟨fs, hx⟩ := hd dd rfl
    obtain ⟨mA, hns, _⟩ : ObjOk _ _ H s.heap dd (.xd fs) := I.hok dd _ hx
    obtain ⟨od, ho, _⟩ := lookIn_ns hns
    exact PySem.W.kia_one (PySem.W.kitx_exc (ox := ⟨.ref C, some dd, .fields vs, osl⟩) (od := some od) T.cl T.ga T.gg T.sub T.ca T.cn T.ck T.cm) I.kIn ⟨hget, rfl, rfl, ho⟩ e nb done
/-- kt: which classes C is under -/
def cIsX (kt : D → Option Bool) : DR := fun ds S Q => ∃ v c b, ds = [v, c] ∧ ((∃ a, v = .cls a) ∨ ∃ a d ks xs, v = .exo a d ks xs) ∧ kt c = some b ∧ Q (.bl b) S
end
end Dy
namespace Dy
open PySem PySem.Spec PyProof.Rows L2

/-! ### a tree as plain data -/
mutual
def pyD : D → Option PyData
  | .non => some .none
  | .bl b => some (.bool b)
  | .int i => some (.int i)
  | .str x => some (.str x)
  | .tup xs => (pyDs xs).map .tuple
  | .lst xs => (pyDs xs).map .list
  | .frz xs => (pyDs xs).map .list
  | _ => none
def pyDs : List D → Option (List PyData)
  | [] => some []
  | x :: xs => (pyD x).bind fun d => (pyDs xs).map fun ds => d :: ds
end
def pyS (S : Store) : D → Option PyData
  | .ref n => match S[n]? with
    | some (.lst xs) => (pyDs xs).map .list
    | _ => none
  | d => pyD d
section
variable {K : PySem.W.Frag} {φ : Al} {H : Hp} {S : Store}
mutual
theorem dp_of : ∀ (d : D) (v : V) (p : PyData), RD K φ H d v → pyD d = some p → Dp K H v p ∧ p.plain = true
  | .non, v, p, h, e => by rw [RD] at h; rw [pyD] at e; cases e; subst h; exact ⟨.non, rfl⟩
  | .bl b, v, p, h, e => by rw [RD] at h; rw [pyD] at e; cases e; subst h; exact ⟨.bl b, rfl⟩
  | .int b, v, p, h, e => by rw [RD] at h; rw [pyD] at e; cases e; subst h; exact ⟨.int b, rfl⟩
  | .str b, v, p, h, e => by rw [RD] at h; rw [pyD] at e; cases e; subst h; exact ⟨.str b, rfl⟩
  | .tup xs, v, p, h, e => by
    rw [RD] at h
    rw [pyD] at e
    obtain ⟨a, vs, rfl, h1, h2⟩ := h
    cases q : pyDs xs with
    | none => rw [q] at e; cases e
    | some ps =>
      rw [q] at e; cases e
      obtain ⟨i1, i2⟩ := dps_of xs vs ps h2 q
      exact ⟨.tup h1 i1, by rw [PyData.plain]; exact i2⟩
  | .lst xs, v, p, h, e => by
    rw [RD] at h
    rw [pyD] at e
    obtain ⟨a, vs, rfl, h1, h2⟩ := h
    cases q : pyDs xs with
    | none => rw [q] at e; cases e
    | some ps =>
      rw [q] at e; cases e
      obtain ⟨i1, i2⟩ := dps_of xs vs ps h2 q
      exact ⟨.lst h1.sq i1, by rw [PyData.plain]; exact i2⟩
  | .frz xs, v, p, h, e => by
    rw [RD] at h
    rw [pyD] at e
    obtain ⟨a, vs, rfl, h1, h2⟩ := h
    cases q : pyDs xs with
    | none => rw [q] at e; cases e
    | some ps =>
      rw [q] at e; cases e
      obtain ⟨i1, i2⟩ := dps_of xs vs ps h2 q
      exact ⟨.lst h1.sq i1, by rw [PyData.plain]; exact i2⟩
  | .ty n, v, p, h, e => by rw [pyD] at e <;> first | cases e | exact fun _ => nofun | nofun
  | .dic ks xs, v, p, h, e => by rw [pyD] at e <;> first | cases e | exact fun _ => nofun | nofun
  | .ref n, v, p, h, e => by rw [pyD] at e <;> first | cases e | exact fun _ => nofun | nofun
  | .cls n, v, p, h, e => by rw [pyD] at e <;> first | cases e | exact fun _ => nofun | nofun
  | .exo _ _ _ _, v, p, h, e => by rw [pyD] at e <;> first | cases e | exact fun _ => nofun | nofun
theorem dps_of : ∀ (xs : List D) (vs : List V) (ps : List PyData), RDs K φ H xs vs → pyDs xs = some ps → DpAll K H vs ps ∧ PyData.plainAll ps = true
  | [], vs, ps, h, e => by rw [RDs] at h; rw [pyDs] at e; cases e; subst h; exact ⟨.nil, rfl⟩
  | x :: xs, vs, ps, h, e => by
    rw [RDs] at h
    rw [pyDs] at e
    obtain ⟨v, r, rfl, h1, h2⟩ := h
    cases q : pyD x with
    | none => rw [q] at e; cases e
    | some d =>
      rw [q] at e
      cases q2 : pyDs xs with
      | none => rw [q2] at e; cases e
      | some ds =>
        rw [q2] at e; cases e
        obtain ⟨i1, i2⟩ := dp_of x v d h1 q
        obtain ⟨j1, j2⟩ := dps_of xs r ds h2 q2
        exact ⟨.cons i1 j1, by rw [PyData.plainAll, i2, j2]; rfl⟩
end
theorem dpS_of (r : SR K φ S H) {d : D} {v : V} {p : PyData} (h : RD K φ H d v) (e : pyS S d = some p) : Dp K H v p ∧ p.plain = true := by
  cases d with
  | ref n =>
    simp only [pyS] at e
    split at e
    · rename_i xs q
      obtain ⟨a, vs, rfl, _, h1, h2⟩ := r.lst h q
      cases q2 : pyDs xs with
      | none => rw [q2] at e; cases e
      | some ds =>
        rw [q2] at e; cases e
        obtain ⟨j1, j2⟩ := dps_of xs vs ds h2 q2
        exact ⟨.lst (SqL.of h1) j1, by rw [PyData.plain]; exact j2⟩
    · cases e
  | _ => exact dp_of _ v p h e
end
def eqR (op : CmpOp) (neg : Bool) : Prop := (op = .Eq ∧ neg = false) ∨ (op = .NotEq ∧ neg = true)
def rEqP (K : PySem.W.Frag) (neg : Bool) : R2 := fun x y H Q => ∃ d e, Dp K H x d ∧ Dp K H y e ∧ d.plain = true ∧ e.plain = true ∧ min d.depth e.depth ≤ 60 ∧ Q (.bl (neg ^^ PyData.eqv d e)) H
theorem ep_bl {X : Cx} {pins : List (Addr × Obj)} {σ : L2.St} {s : Shared} {Q : VK} {b c : Bool} (I : Inv X pins σ H s) (q : Q (.bl b) H) (e : b = c) : EP X pins σ Q (.bool c) s := ⟨.bl c, H, I, rfl, e ▸ q⟩
theorem op_eqP {X : Cx} (hu : X.A.units + 64 < cLine) : OpR X (compareOp .Eq) (rEqP X.K false) := by
  rintro pins s σ H x y v u Q I rx ry ⟨d, e, dx, dy, p1, p2, hd, q⟩
  obtain ⟨as, ra⟩ := Dp.reads I d x v dx rx
  obtain ⟨bs, rb⟩ := Dp.reads I e y u dy ry
  exact SeqAt.eq_plain ra rb p1 p2 (by omega) (ep_bl I q (by simp))
theorem op_neP {X : Cx} (hu : X.A.units + 64 < cLine) : OpR X (compareOp .NotEq) (rEqP X.K true) := by
  rintro pins s σ H x y v u Q I rx ry ⟨d, e, dx, dy, p1, p2, hd, q⟩
  obtain ⟨as, ra⟩ := Dp.reads I d x v dx rx
  obtain ⟨bs, rb⟩ := Dp.reads I e y u dy ry
  exact SeqAt.ne_plain ra rb p1 p2 (by omega) (ep_bl I q (by simp))
/-- == -/
def dEqN (neg : Bool) : D2 := fun x y S Q => match x, y with
  | .int i, .int j => Q (.bl (neg ^^ decide (i = j))) S
  | .str i, .str j => Q (.bl (neg ^^ decide (i = j))) S
  | .bl i, .bl j => Q (.bl (neg ^^ decide (i = j))) S
  | .non, .non => Q (.bl (neg ^^ true)) S
  | x, y => ∃ d e, pyS S x = some d ∧ pyS S y = some e ∧ min d.depth e.depth ≤ 60 ∧ Q (.bl (neg ^^ PyData.eqv d e)) S
theorem lk_eqN {K : PySem.W.Frag} (neg : Bool) : Lk K (dEqN neg) (rEqP K neg) := by
  intro φ S H Q' Q x y v1 v2 r r1 r2 q h
  have gen : ∀ d e : PyData, pyS S x = some d → pyS S y = some e → min d.depth e.depth ≤ 60 → Q' (.bl (neg ^^ PyData.eqv d e)) S → rEqP K neg v1 v2 H Q := fun d e e1 e2 hd h => by
    obtain ⟨i1, i2⟩ := dpS_of r r1 e1
    obtain ⟨j1, j2⟩ := dpS_of r r2 e2
    exact ⟨d, e, i1, j1, i2, j2, hd, q φ H S _ _ .refl r rd_bl h⟩
  unfold dEqN at h
  split at h
  · rename_i i j
    refine gen (.int i) (.int j) rfl rfl (by simp [PyData.depth]) ?_
    have : PyData.eqv (.int i) (.int j) = decide (i = j) := by rw [PyData.eqv]; exact PySem.W.beq_decide i j
    rw [this]; exact h
  · rename_i i j
    refine gen (.str i) (.str j) rfl rfl (by simp [PyData.depth]) ?_
    have : PyData.eqv (.str i) (.str j) = decide (i = j) := by rw [PyData.eqv]; exact PySem.W.beq_decide i j
    rw [this]; exact h
  · rename_i i j
    refine gen (.bool i) (.bool j) rfl rfl (by simp [PyData.depth]) ?_
    have : PyData.eqv (.bool i) (.bool j) = decide (i = j) := by rw [PyData.eqv]; exact PySem.W.beq_decide i j
    rw [this]; exact h
  · exact gen .none .none rfl rfl (by simp [PyData.depth]) h
  · obtain ⟨d, e, e1, e2, hd, h⟩ := h
    exact gen d e e1 e2 hd h
theorem lk_eq {K : PySem.W.Frag} : Lk K (dEqN false) (rEqP K false) := lk_eqN false
theorem lk_ne {K : PySem.W.Frag} : Lk K (dEqN true) (rEqP K true) := lk_eqN true
section
variable {F : Fam} {k : Nat}
theorem oq_eq (hr : ∀ i, Room k (F.X i).A) (i : F.ι) : OpR (F.X i) (compareOp .Eq) (rEqP F.K false) := F.hK i ▸ op_eqP (hr i).units
theorem oq_ne (hr : ∀ i, Room k (F.X i).A) (i : F.ι) : OpR (F.X i) (compareOp .NotEq) (rEqP F.K true) := F.hK i ▸ op_neP (hr i).units
end
/-- x in a list, a tuple -/
def rInP (K : PySem.W.Frag) (neg : Bool) : R2 := fun x y H Q => ∃ d ds, (Dp K H y (.list ds) ∨ Dp K H y (.tuple ds)) ∧ Dp K H x d ∧ PyData.plainAll ds = true ∧ d.plain = true ∧ min (PyData.depthAll ds) d.depth ≤ 60 ∧ Q (.bl (neg ^^ ds.any fun z => PyData.eqv z d)) H
theorem op_inP {X : Cx} (hu : X.A.units + 64 < cLine) : OpR X (compareOp .In) (rInP X.K false) := by
  rintro pins s σ H x y v u Q I rx ry ⟨d, ds, dy, dx, p1, p2, hd, q⟩
  obtain ⟨as, ra⟩ := Dp.reads I d x v dx rx
  rcases dy with dy | dy
  · obtain ⟨bs, rb⟩ := Dp.reads I _ y u dy ry
    exact SeqAt.in_list_data rb ra p1 p2 (by omega) (ep_bl I q (by simp))
  · obtain ⟨bs, rb⟩ := Dp.reads I _ y u dy ry
    exact SeqAt.in_tuple_data rb ra p1 p2 (by omega) (ep_bl I q (by simp))
theorem op_ninP {X : Cx} (hu : X.A.units + 64 < cLine) : OpR X (compareOp .NotIn) (rInP X.K true) := by
  rintro pins s σ H x y v u Q I rx ry ⟨d, ds, dy, dx, p1, p2, hd, q⟩
  obtain ⟨as, ra⟩ := Dp.reads I d x v dx rx
  rcases dy with dy | dy
  · obtain ⟨bs, rb⟩ := Dp.reads I _ y u dy ry
    exact SeqAt.notIn_list_data rb ra p1 p2 (by omega) (ep_bl I q (by simp))
  · obtain ⟨bs, rb⟩ := Dp.reads I _ y u dy ry
    exact SeqAt.notIn_tuple_data rb ra p1 p2 (by omega) (ep_bl I q (by simp))
def dInN (neg : Bool) : D2 := fun x y S Q => ∃ d ys ds, pyS S x = some d ∧ sqOf S y = some ys ∧ pyDs ys = some ds ∧ min (PyData.depthAll ds) d.depth ≤ 60 ∧ Q (.bl (neg ^^ ds.any fun z => PyData.eqv z d)) S
theorem lk_inN {K : PySem.W.Frag} (neg : Bool) : Lk K (dInN neg) (rInP K neg) := by
  rintro φ S H Q' Q x y v1 v2 r r1 r2 q ⟨d, ys, ds, e1, e2, e3, hd, h⟩
  obtain ⟨i1, i2⟩ := dpS_of r r1 e1
  obtain ⟨a, vs, rfl, h1, h2⟩ := sq_of r r2 e2
  obtain ⟨j1, j2⟩ := dps_of ys vs ds h2 e3
  refine ⟨d, ds, ?_, i1, j2, i2, hd, q φ H S _ _ .refl r rd_bl h⟩
  rcases h1 with h1 | h1
  · exact .inl (.lst h1 j1)
  · exact .inr (.tup h1 j1)
theorem lk_in {K : PySem.W.Frag} : Lk K (dInN false) (rInP K false) := lk_inN false
theorem lk_nin {K : PySem.W.Frag} : Lk K (dInN true) (rInP K true) := lk_inN true
section
variable {F : Fam} {k : Nat}
theorem oq_in (hr : ∀ i, Room k (F.X i).A) (i : F.ι) : OpR (F.X i) (compareOp .In) (rInP F.K false) := F.hK i ▸ op_inP (hr i).units
theorem oq_nin (hr : ∀ i, Room k (F.X i).A) (i : F.ι) : OpR (F.X i) (compareOp .NotIn) (rInP F.K true) := F.hK i ▸ op_ninP (hr i).units
end
theorem lk_isB {K : PySem.W.Frag} : Lk K (fun x y S Q => ∃ a b : Bool, x = .bl a ∧ y = .bl b ∧ Q (.bl (decide (a = b))) S) rIsB := by
  rintro φ S H Q' Q x y v1 v2 r r1 r2 q ⟨a, b, rfl, rfl, h⟩
  rw [RD] at r1 r2
  exact ⟨a, b, r1, r2, q φ H S _ _ .refl r rd_bl h⟩
theorem lk_notB {K : PySem.W.Frag} : Lk K (fun x y S Q => ∃ a b : Bool, x = .bl a ∧ y = .bl b ∧ Q (.bl (!decide (a = b))) S) rNotB := by
  rintro φ S H Q' Q x y v1 v2 r r1 r2 q ⟨a, b, rfl, rfl, h⟩
  rw [RD] at r1 r2
  exact ⟨a, b, r1, r2, q φ H S _ _ .refl r rd_bl h⟩

/-! ### built-ins by their names -/
theorem bt_int : bootBuiltins "int" = some (.type "int") := by decide +kernel
theorem bt_bool : bootBuiltins "bool" = some (.type "bool") := by decide +kernel
theorem bt_str : bootBuiltins "str" = some (.type "str") := by decide +kernel
theorem bt_tuple : bootBuiltins "tuple" = some (.type "tuple") := by decide +kernel
theorem bt_list : bootBuiltins "list" = some (.type "list") := by decide +kernel
theorem bt_dict : bootBuiltins "dict" = some (.type "dict") := by decide +kernel
theorem bt_abs : bootBuiltins "abs" = some (.builtin "abs") := by decide +kernel
theorem bt_len : bootBuiltins "len" = some (.builtin "len") := by decide +kernel
theorem bt_sum : bootBuiltins "sum" = some (.builtin "sum") := by decide +kernel
theorem bt_all : bootBuiltins "all" = some (.builtin "all") := by decide +kernel
theorem bt_any : bootBuiltins "any" = some (.builtin "any") := by decide +kernel
theorem bt_isinstance : bootBuiltins "isinstance" = some (.builtin "isinstance") := by decide +kernel
theorem bt_ValueError : bootBuiltins "ValueError" = some (.type "ValueError") := by decide +kernel
section
variable {F : Fam} {W : WX} {e e2 : Expr} {t : DTA} {p pos : Pos} {k : Nat}
abbrev St1 (F : Fam) (e : Expr) (es : List Expr) : Prop := ∀ i, starEach (e :: es) (F.X i).env = (false, eval e (F.X i).env) :: starEach es (F.X i).env
abbrev Pl1 (F : Fam) (pos : Pos) (es : List Expr) : Prop := ∀ i, (backTo pos (starEach es (F.X i).env)).any (·.1) = false
theorem dc_int (hm : ∀ i, (F.X i).mg "int" = none) (ha : DA F W [e] t) (hg : ∀ i, Gl (F.X i) "int" := by intro _; rfl) (he : St1 F e [] := by intro _; rfl) (hp : Pl1 F pos [] := by intro _; rfl) : DE F W (.Call (.Name "int" p) [e] [] pos) (dCB cInt t) := de_callTy (fun _ => call_int1) lk_int hg hm bt_int ha (he := he) (hpl := hp)
theorem dc_abs (hm : ∀ i, (F.X i).mg "abs" = none) (ha : DA F W [e] t) (hg : ∀ i, Gl (F.X i) "abs" := by intro _; rfl) (he : St1 F e [] := by intro _; rfl) (hp : Pl1 F pos [] := by intro _; rfl) : DE F W (.Call (.Name "abs" p) [e] [] pos) (dCB cAbs t) := de_callB (fun _ => call_abs) lk_abs hg hm bt_abs ha (he := he) (hpl := hp)
theorem dc_len (hm : ∀ i, (F.X i).mg "len" = none) (ha : DA F W [e] t) (hg : ∀ i, Gl (F.X i) "len" := by intro _; rfl) (he : St1 F e [] := by intro _; rfl) (hp : Pl1 F pos [] := by intro _; rfl) : DE F W (.Call (.Name "len" p) [e] [] pos) (dCB cLen t) := de_callB (fun i => F.hK i ▸ call_len_seq) lk_len hg hm bt_len ha (he := he) (hpl := hp)
theorem dc_sum (hc : ∀ i, (F.X i).calm = true) (hm : ∀ i, (F.X i).mg "sum" = none) (ha : DA F W [e] t) (hg : ∀ i, Gl (F.X i) "sum" := by intro _; rfl) (he : St1 F e [] := by intro _; rfl) (hp : Pl1 F pos [] := by intro _; rfl) : DE F W (.Call (.Name "sum" p) [e] [] pos) (dCB cSum t) := de_callB (fun i => F.hK i ▸ cr_sum (hc i)) lk_sum hg hm bt_sum ha (he := he) (hpl := hp)
theorem dc_all (hc : ∀ i, (F.X i).calm = true) (hm : ∀ i, (F.X i).mg "all" = none) (ha : DA F W [e] t) (hg : ∀ i, Gl (F.X i) "all" := by intro _; rfl) (he : St1 F e [] := by intro _; rfl) (hp : Pl1 F pos [] := by intro _; rfl) : DE F W (.Call (.Name "all" p) [e] [] pos) (dCB cAll t) := de_callB (fun i => F.hK i ▸ cr_all (hc i)) lk_all hg hm bt_all ha (he := he) (hpl := hp)
theorem dc_any (hc : ∀ i, (F.X i).calm = true) (hm : ∀ i, (F.X i).mg "any" = none) (ha : DA F W [e] t) (hg : ∀ i, Gl (F.X i) "any" := by intro _; rfl) (he : St1 F e [] := by intro _; rfl) (hp : Pl1 F pos [] := by intro _; rfl) : DE F W (.Call (.Name "any" p) [e] [] pos) (dCB cAny t) := de_callB (fun i => F.hK i ▸ cr_any (hc i)) lk_any hg hm bt_any ha (he := he) (hpl := hp)
theorem dc_tuple (hm : ∀ i, (F.X i).mg "tuple" = none) (ha : DA F W [e] t) (hg : ∀ i, Gl (F.X i) "tuple" := by intro _; rfl) (he : St1 F e [] := by intro _; rfl) (hp : Pl1 F pos [] := by intro _; rfl) : DE F W (.Call (.Name "tuple" p) [e] [] pos) (dCB cTuple t) := de_callTy (fun i => F.hK i ▸ call_tuple_of) lk_tuple hg hm bt_tuple ha (he := he) (hpl := hp)
theorem dc_list (hm : ∀ i, (F.X i).mg "list" = none) (ha : DA F W [e] t) (hg : ∀ i, Gl (F.X i) "list" := by intro _; rfl) (he : St1 F e [] := by intro _; rfl) (hp : Pl1 F pos [] := by intro _; rfl) : DE F W (.Call (.Name "list" p) [e] [] pos) (dCB cList t) := de_callTy (fun i => F.hK i ▸ call_list_of) lk_list hg hm bt_list ha (he := he) (hpl := hp)
theorem dc_listN (hm : ∀ i, (F.X i).mg "list" = none) (ha : DA F W [e] t) (hg : ∀ i, Gl (F.X i) "list" := by intro _; rfl) (he : St1 F e [] := by intro _; rfl) (hp : Pl1 F pos [] := by intro _; rfl) : DE F W (.Call (.Name "list" p) [e] [] pos) (dCB cListN t) := de_callTy (fun i => F.hK i ▸ call_list_of) lk_listN hg hm bt_list ha (he := he) (hpl := hp)
theorem dc_isi {T : String} (hT : T ∈ tags) (hN : T ≠ "NoneType") (hm : ∀ i, (F.X i).mg "isinstance" = none) (ha : DA F W [e, e2] t) (hg : ∀ i, Gl (F.X i) "isinstance" := by intro _; rfl) (he : St1 F e [e2] := by intro _; rfl) (hp : Pl1 F pos [e2] := by intro _; rfl) :
    DE F W (.Call (.Name "isinstance" p) [e, e2] [] pos) (dCB (cIsi T) t) := de_callB (fun i => F.hK i ▸ call_isi) (lk_isi hT hN) hg hm bt_isinstance ha (he := he) (hpl := hp)
end

/-! ### a def as its callers know it -/
def Cal (P : Program) (w : World) (K : PySem.W.Frag) (mg : Str → Option Value) (base : Heap) (x : Str) (k : Nat) (ps : List Str) (sp : DSp) : Prop :=
  ∃ f fd, FnOk P w K mg base (L2.CX P w) k f fd ps (liftSp K sp) ∧ mg x = some (.ref f) ∧ PySem.W.keepIn K (.ref f) = true ∧ Binds K fd ps []
section
variable {F : Fam} {W : WX} {e : Expr} {es : List Expr} {t : DTA} {p pos : Pos} {k k2 : Nat} {x : Str} {ps : List Str} {sp : DSp}
abbrev CalF (F : Fam) (x : Str) (k : Nat) (ps : List Str) (sp : DSp) : Prop := ∀ i, Cal (F.X i).prog (F.X i).w (F.X i).K (F.X i).mg (F.X i).base x k ps sp
theorem de_callC (c : CalF F x k ps sp) (hr : ∀ i, Room k2 (F.X i).A) (hk : k ≤ k2) (tk : ∀ i, Takes (F.X i) W) (ha : DA F W (e :: es) t) (hg : ∀ i, Gl (F.X i) x := by intro _; rfl) (hdb : (x == ("__debug__" : Str)) = false := by decide) (he : St1 F e es := by intro _; rfl) (hp : Pl1 F pos es := by intro _; rfl) :
    DE F W (.Call (.Name x p) (e :: es) [] pos) (dCall sp t) := by
  obtain ⟨t1, p1, k1⟩ := ha
  refine ⟨tCallS (liftSp F.K sp) (WE W) t1, fun i => ?_, fun σ ρ φ S H E Q' Q o q h => k1 σ ρ φ S H E _ _ o (fun φ1 H1 S1 ds vs s1 r1 rd h1 => call_link (o.mono s1 r1) (q.mono s1) rd h1) h⟩
  obtain ⟨f, fd, G, gm, kp, bd⟩ := c i
  rw [F.hK i] at G
  have G' : FnOk (F.X i).prog (F.X i).w (F.X i).K (F.X i).mg (F.X i).base (L2.CX (F.X i).prog (F.X i).w) k f fd ps (liftSp F.K sp) := by rw [F.hK i]; exact G
  exact pe_callS G' ((hr i).mono hk) (hg i) gm kp bd (fun σ => passAt (tk i) σ) (p1 i) hdb (he i) (hp i)
theorem de_callC0 (c : CalF F x k ps sp) (hr : ∀ i, Room k2 (F.X i).A) (hk : k ≤ k2) (tk : ∀ i, Takes (F.X i) W) (hg : ∀ i, Gl (F.X i) x := by intro _; rfl) (hdb : (x == ("__debug__" : Str)) = false := by decide) : DE F W (.Call (.Name x p) [] [] pos) (dCall sp dNil) := by
  refine ⟨tCallS (liftSp F.K sp) (WE W) tNil, fun i => ?_, fun σ ρ φ S H E Q' Q o q h => call_link o q .nil h⟩
  obtain ⟨f, fd, G, gm, kp, bd⟩ := c i
  rw [F.hK i] at G
  have G' : FnOk (F.X i).prog (F.X i).w (F.X i).K (F.X i).mg (F.X i).base (L2.CX (F.X i).prog (F.X i).w) k f fd ps (liftSp F.K sp) := by rw [F.hK i]; exact G
  exact pe_callS0' G' ((hr i).mono hk) (hg i) gm kp bd (fun σ => passAt (tk i) σ) hdb
end
end Dy
namespace Dy
open PySem PySem.Spec PyProof.Rows L2

/-! ### reading on, step by step -/
def dPut (d o i : D) (P : Store → Prop) (S : Store) : Prop := ∃ n xs k j, o = .ref n ∧ S[n]? = some (.lst xs) ∧ i = .int k ∧ ixN xs.length k = some j ∧ P (S.set n (.lst (xs.set j d)))
section
variable {ρ : Rho} {S : Store} {Q : QD} {E : XQ} {ta tb tc te to ti : DTE} {uA uB : DTT} {t tr : DTA} {r r' : D2} {d d2 x y : D} {i j n : Nat} {D' : DEnds} {u v : DTS} {QT : Bool → Store → Prop} {QA : List D → Store → Prop}
theorem c_op (h : ta ρ S (fun d1 S1 => tb ρ S1 (fun d2 S2 => r d1 d2 S2 Q) E) E) : dOp r ta tb ρ S Q E := h
theorem c_un {r : D → Store → QD → Prop} (h : ta ρ S (fun d S1 => r d S1 Q) E) : dUn r ta ρ S Q E := h
theorem c_var (e : ρ[i]? = some (some d)) (h : Q d S) : dVar i ρ S Q E := ⟨d, e, h⟩
theorem c_c (h : Q d S) : dC d ρ S Q E := h
theorem c_nil (h : QA [] S) : dNil ρ S QA E := h
theorem c_cons (h : te ρ S (fun d S1 => tr ρ S1 (fun ds S2 => QA (d :: ds) S2) E) E) : dCons te tr ρ S QA E := h
theorem c_tup (h : t ρ S (fun ds S1 => ds.length ≤ sizeLine ∧ Q (.tup ds) S1) E) : dTup t ρ S Q E := h
theorem c_lst (h : t ρ S (fun ds S1 => ds.length ≤ sizeLine ∧ Q (.lst ds) S1) E) : dLst t ρ S Q E := h
theorem c_new (h : t ρ S (fun ds S1 => ds.length ≤ sizeLine ∧ Q (.ref S1.length) (S1 ++ [.lst ds])) E) : dNew t ρ S Q E := h
theorem c_cb {r : DR} (h : t ρ S (fun ds S1 => r ds S1 Q) E) : dCB r t ρ S Q E := h
theorem c_call {sp : DSp} (h : t ρ S (fun ds S1 => sp ds S1 Q E) E) : dCall sp t ρ S Q E := h
theorem c_if (h : uA ρ S (fun c S1 => if c = true then ta ρ S1 Q E else tb ρ S1 Q E) E) : dIf uA ta tb ρ S Q E := h
theorem c_andV (h : ta ρ S (fun d S1 => ∃ c, d = .bl c ∧ if c = true then tb ρ S1 Q E else Q (.bl false) S1) E) : dAndV ta tb ρ S Q E := h
theorem c_orV (h : ta ρ S (fun d S1 => ∃ c, d = .bl c ∧ if c = true then Q (.bl true) S1 else tb ρ S1 Q E) E) : dOrV ta tb ρ S Q E := h
theorem c_notV (h : ta ρ S (fun d S1 => ∃ c, d = .bl c ∧ Q (.bl (!c)) S1) E) : dNotV ta ρ S Q E := h
theorem c_test (h : te ρ S (fun d S1 => ∃ k, d = .bl k ∧ QT k S1) E) : dTest te ρ S QT E := h
theorem c_and (h : uA ρ S (fun c S1 => if c = true then uB ρ S1 QT E else QT false S1) E) : dAnd uA uB ρ S QT E := h
theorem c_or (h : uA ρ S (fun c S1 => if c = true then QT true S1 else uB ρ S1 QT E) E) : dOr uA uB ρ S QT E := h
theorem c_not (h : uA ρ S (fun c S1 => QT (!c) S1) E) : dNot uA ρ S QT E := h
theorem c_yes (h : QT true S) : dYes ρ S QT E := h
theorem c_bl {P : Bool → Prop} {b : Bool} (h : P b) : ∃ k, D.bl b = .bl k ∧ P k := ⟨b, rfl, h⟩
theorem c_chain {r r' : D2} (h : ta ρ S (fun x S1 => tb ρ S1 (fun y S2 => r x y S2 fun z S3 => ∃ k, z = .bl k ∧ (if k = true then tc ρ S3 (fun w S4 => r' y w S4 Q) E else Q (.bl false) S3)) E) E) : dChain r r' ta tb tc ρ S Q E := h
theorem c_sl {r : D → Option Int → Option Int → Store → QD → Prop} {tl th : DTO} (h : te ρ S (fun x S1 => tl ρ S1 (fun l S2 => th ρ S2 (fun u S3 => r x l u S3 Q) E) E) E) : dSl r te tl th ρ S Q E := h
theorem c_nopart {QO : Option Int → Store → Prop} (h : QO none S) : dNoPart ρ S QO E := h
theorem c_part {QO : Option Int → Store → Prop} (h : te ρ S (fun d S1 => ∃ i, d = .int i ∧ QO (some i) S1) E) : dPart te ρ S QO E := h
theorem c_intE {P : Int → Prop} {i : Int} (h : P i) : ∃ k, D.int i = .int k ∧ P k := ⟨i, rfl, h⟩
/-! by values -/
theorem o_I0 {g : Int → Int → D} {i j : Int} (h : Q (g i j) S) : dI0 g (.int i) (.int j) S Q := ⟨i, j, rfl, rfl, h⟩
theorem o_I {C : Int → Int → Prop} {g : Int → Int → D} {i j : Int} (c : C i j) (h : Q (g i j) S) : dI C g (.int i) (.int j) S Q := ⟨i, j, rfl, rfl, c, h⟩
theorem o_addI {i j : Int} (h : Q (.int (i + j)) S) : dAdd (.int i) (.int j) S Q := h
theorem o_addT {xs ys : List D} (c : xs.length + ys.length ≤ sizeLine) (h : Q (.tup (xs ++ ys)) S) : dAdd (.tup xs) (.tup ys) S Q := ⟨c, h⟩
theorem o_addS {i j : Str} (c : i.length + j.length ≤ sizeLine) (h : Q (.str (i ++ j)) S) : dAdd (.str i) (.str j) S Q := ⟨c, h⟩
theorem o_ix {xs : List D} {i : Int} {v : D} (e : sqOf S x = some xs) (e2 : atI xs i = some v) (h : Q v S) : dIx x (.int i) S Q := ⟨xs, i, v, e, rfl, e2, h⟩
theorem o_cat {xs ys : List D} (e1 : lsM S x = some xs) (e2 : lsM S y = some ys) (c : xs.length + ys.length ≤ sizeLine) (h : Q (.lst (xs ++ ys)) S) : dCat x y S Q := ⟨xs, ys, e1, e2, c, h⟩
theorem o_catN {xs ys : List D} (e1 : lsM S x = some xs) (e2 : lsM S y = some ys) (c : xs.length + ys.length ≤ sizeLine) (h : Q (.ref S.length) (S ++ [.lst (xs ++ ys)])) : dCatN x y S Q := ⟨xs, ys, e1, e2, c, h⟩
theorem o_isN (h : Q (.bl (isN x)) S) : dIsN x .non S Q := ⟨rfl, h⟩
theorem o_notN (h : Q (.bl (!isN x)) S) : dNotN x .non S Q := ⟨rfl, h⟩
theorem o_eqI {neg : Bool} {i j : Int} (h : Q (.bl (neg ^^ decide (i = j))) S) : dEqN neg (.int i) (.int j) S Q := h
theorem o_eqS {neg : Bool} {i j : Str} (h : Q (.bl (neg ^^ decide (i = j))) S) : dEqN neg (.str i) (.str j) S Q := h
theorem o_eqB {neg : Bool} {i j : Bool} (h : Q (.bl (neg ^^ decide (i = j))) S) : dEqN neg (.bl i) (.bl j) S Q := h
theorem o_neg {i : Int} (h : Q (.int (-i)) S) : dNeg (.int i) S Q := ⟨i, rfl, h⟩
theorem o_slT {xs : List D} {lo hi : Option Int} (h : Q (.tup (cutD xs lo hi)) S) : dSlT (.tup xs) lo hi S Q := ⟨xs, rfl, h⟩
theorem o_slL {xs : List D} {lo hi : Option Int} (e : lsOf S x = some xs) (h : Q (.lst (cutD xs lo hi)) S) : dSlL x lo hi S Q := ⟨xs, e, h⟩
theorem o_int {i : Int} (h : Q (.int i) S) : cInt [.int i] S Q := .inl ⟨i, rfl, h⟩
theorem o_intB {b : Bool} (h : Q (.int (if b then 1 else 0)) S) : cInt [.bl b] S Q := .inr ⟨b, rfl, h⟩
theorem o_abs {i : Int} (h : Q (.int (if i < 0 then -i else i)) S) : cAbs [.int i] S Q := ⟨i, rfl, h⟩
theorem o_len {xs : List D} (e : sqOf S d = some xs) (h : Q (.int xs.length) S) : cLen [d] S Q := ⟨d, xs, rfl, e, h⟩
theorem o_list {xs : List D} (e : sqOf S d = some xs) (h : Q (.lst xs) S) : cList [d] S Q := ⟨d, xs, rfl, e, h⟩
theorem o_listN {xs : List D} (e : sqOf S d = some xs) (h : Q (.ref S.length) (S ++ [.lst xs])) : cListN [d] S Q := ⟨d, xs, rfl, e, h⟩
theorem o_tuple {xs : List D} (e : sqOf S d = some xs) (h : Q (.tup xs) S) : cTuple [d] S Q := ⟨d, xs, rfl, e, h⟩
theorem o_isi {T tag : String} (e : tagOf S d = some tag) (h : Q (.bl (isiT T tag)) S) : cIsi T [d, .ty T] S Q := ⟨d, tag, rfl, e, h⟩
theorem o_lsAnd {xs : List D} {B : Prop} (e : lsOf S d = some xs) (h : B) : (∃ xs, lsOf S d = some xs) ∧ B := ⟨⟨xs, e⟩, h⟩
/-! statements -/
variable {nx bk ct : Rho → Store → Prop} {rt : D → Store → Prop} {ex : Exc → Rho → Store → Prop}
theorem s_seq (h : u ⟨v ⟨nx, rt, bk, ct, ex⟩, rt, bk, ct, ex⟩ ρ S) : dSeq u v ⟨nx, rt, bk, ct, ex⟩ ρ S := h
theorem s_next (h : nx ρ S) : dNext ⟨nx, rt, bk, ct, ex⟩ ρ S := h
theorem s_asg (h : te ρ S (fun d S1 => nx (ρ.set i (some d)) S1) (fun x S1 => ex x ρ S1)) : dAsg te (eName i) ⟨nx, rt, bk, ct, ex⟩ ρ S := h
theorem s_asgG {g : DTG} (h : te ρ S (fun d S1 => g d ρ S1 nx) (fun x S1 => ex x ρ S1)) : dAsg te g ⟨nx, rt, bk, ct, ex⟩ ρ S := h
theorem s_drop (h : te ρ S (fun _ S1 => nx ρ S1) (fun x S1 => ex x ρ S1)) : dDrop te ⟨nx, rt, bk, ct, ex⟩ ρ S := h
theorem s_ret (h : te ρ S rt (fun x S1 => ex x ρ S1)) : dRet te ⟨nx, rt, bk, ct, ex⟩ ρ S := h
theorem s_retN (h : rt .non S) : dRetN ⟨nx, rt, bk, ct, ex⟩ ρ S := h
theorem s_ifs (h : uA ρ S (fun b S1 => if b = true then u ⟨nx, rt, bk, ct, ex⟩ ρ S1 else v ⟨nx, rt, bk, ct, ex⟩ ρ S1) (fun x S1 => ex x ρ S1)) : dIfS uA u v ⟨nx, rt, bk, ct, ex⟩ ρ S := h
theorem s_par (h : t ρ S (fun ds S1 => ∃ d c, ds = [d, c] ∧ nx ((ρ.set i (some d)).set j (some c)) S1) (fun x S1 => ex x ρ S1)) : dPar i j t ⟨nx, rt, bk, ct, ex⟩ ρ S := h
theorem s_two {P : D → D → Prop} {a b : D} (h : P a b) : ∃ d c, [a, b] = [d, c] ∧ P d c := ⟨a, b, rfl, h⟩
theorem s_aug (e : ρ[i]? = some (some x)) (h : te ρ S (fun d S1 => r x d S1 fun z S2 => nx (ρ.set i (some z)) S2) (fun x S1 => ex x ρ S1)) : dAug i te r ⟨nx, rt, bk, ct, ex⟩ ρ S := ⟨x, e, h⟩
theorem s_setL (h : te ρ S (fun d S1 => to ρ S1 (fun o S2 => ti ρ S2 (fun i S3 => dPut d o i (nx ρ) S3) (fun x S1 => ex x ρ S1)) (fun x S1 => ex x ρ S1)) (fun x S1 => ex x ρ S1)) : dSetL te to ti ⟨nx, rt, bk, ct, ex⟩ ρ S := h
theorem o_put {P : Store → Prop} {xs : List D} {k : Int} (e : S[n]? = some (.lst xs)) (e2 : ixN xs.length k = some j)
    (h : ∀ S', S'.length = S.length → S'[n]? = some (.lst (xs.set j d)) → (∀ m : Nat, m ≠ n → S'[m]? = S[m]?) → P S') : dPut d (.ref n) (.int k) P S := by
  refine ⟨n, xs, k, j, rfl, e, rfl, e2, h _ (by simp) ?_ fun m hm => List.getElem?_set_ne (Ne.symm hm)⟩
  exact List.getElem?_set_self (List.getElem?_eq_some_iff.mp e).1
theorem g_name {P : Rho → Store → Prop} (h : P (ρ.set i (some d)) S) : eName i d ρ S P := h
theorem g_tup {P : Rho → Store → Prop} {g : DTGs} {xs : List D} (e : xs.length = n) (h : g xs ρ S P) : eTup n g (.tup xs) ρ S P := ⟨xs, rfl, e, h⟩
theorem g_nil {P : Rho → Store → Prop} (h : P ρ S) : eNil [] ρ S P := ⟨rfl, h⟩
theorem g_cons {P : Rho → Store → Prop} {g : DTG} {gs : DTGs} {ds : List D} (h : g d ρ S fun ρ1 S1 => gs ds ρ1 S1 P) : eCons g gs (d :: ds) ρ S P := ⟨d, ds, rfl, h⟩
/-! methods of lists -/
theorem sq_ref {xs : List D} (e : S[n]? = some (.lst xs)) : sqOf S (.ref n) = some xs := by unfold sqOf lsOf; simp only [e]
theorem ls_ref {xs : List D} (e : S[n]? = some (.lst xs)) : lsOf S (.ref n) = some xs := by unfold lsOf; simp only [e]
theorem lm_ref {xs : List D} (e : S[n]? = some (.lst xs)) : lsM S (.ref n) = some xs := by unfold lsM; simp only [e]
theorem tg_ref {xs : List D} (e : S[n]? = some (.lst xs)) : tagOf S (.ref n) = some "list" := by unfold tagOf; simp only [e]
theorem o_popAt {xs : List D} {k : Int} {y : D} (e : S[n]? = some (.lst xs)) (b1 : -(2 ^ 63) ≤ k) (b2 : k < 2 ^ 63) (e2 : seqIndex? k xs.length = some j) (e3 : xs[j]? = some y)
    (h : ∀ S', S'.length = S.length → S'[n]? = some (.lst (xs.eraseIdx j)) → (∀ m : Nat, m ≠ n → S'[m]? = S[m]?) → Q y S') : mPopAt (.ref n) [.int k] S Q :=
  ⟨n, xs, k, j, y, rfl, rfl, e, b1, b2, e2, e3, h _ (by simp) (List.getElem?_set_self (List.getElem?_eq_some_iff.mp e).1) fun m hm => List.getElem?_set_ne (Ne.symm hm)⟩
theorem o_app {xs : List D} {y : D} (e : S[n]? = some (.lst xs)) (b : xs.length < sizeLine)
    (h : ∀ S', S'.length = S.length → S'[n]? = some (.lst (xs ++ [y])) → (∀ m : Nat, m ≠ n → S'[m]? = S[m]?) → Q .non S') : mApp (.ref n) [y] S Q :=
  ⟨n, xs, y, rfl, rfl, e, b, h _ (by simp) (List.getElem?_set_self (List.getElem?_eq_some_iff.mp e).1) fun m hm => List.getElem?_set_ne (Ne.symm hm)⟩
theorem s_bm {r : DM} (h : to ρ S (fun o S1 => (∃ xs, lsOf S1 o = some xs) ∧ t ρ S1 (fun ds S2 => r o ds S2 Q) E) E) : dBM r to t ρ S Q E := h
theorem s_bm0 {r : DM} (h : to ρ S (fun o S1 => (∃ xs, lsOf S1 o = some xs) ∧ r o [] S1 Q) E) : dBM0 r to ρ S Q E := h
theorem s_rng1 {R : List D → (Store → Prop) → Store → Prop} (h : t ρ S (fun ds S1 => ∃ j : Int, ds = [.int j] ∧ -(2 ^ 62) ≤ j ∧ j < 2 ^ 62 ∧ R (rngD 0 j.toNat) (fun _ => True) S1) E) : jRng1 t ρ S R E := h
theorem s_sq {R : List D → (Store → Prop) → Store → Prop} (h : te ρ S (fun d S1 => ∃ xs, sqOf S1 d = some xs ∧ R xs (fun S => sqOf S d = some xs) S1) E) : jSq te ρ S R E := h
/-- a list of the store is put anew: the store behind it is told by what it holds -/
theorem put_at {P : Store → Prop} {o : SO} {so : SO} (hn : S[n]? = some so) (h : ∀ S', S'.length = S.length → S'[n]? = some o → (∀ m : Nat, m ≠ n → S'[m]? = S[m]?) → P S') : P (S.set n o) := by
  refine h _ (by simp) ?_ fun m hm => List.getElem?_set_ne (Ne.symm hm)
  exact List.getElem?_set_self (List.getElem?_eq_some_iff.mp hn).1
end
theorem ifD {P : Prop} [Decidable P] {A B : Prop} (h1 : P → A) (h2 : ¬P → B) : if decide P = true then A else B := by
  by_cases h : P
  · rw [if_pos (decide_eq_true h)]; exact h1 h
  · rw [if_neg fun c => h (of_decide_eq_true c)]; exact h2 h
/-! comprehensions, loops -/
def dLcK (g : D → Rho → (Rho → Prop) → Prop) (tt : DTT) (te : DTE) (ρ : Rho) (Q : QD) (xs : List D) (live : Store → Prop) (S1 : Store) : Prop :=
  ∃ Pv : Nat → List D → Store → Prop, Pv 0 [] S1 ∧ (∀ k acc S, k ≤ xs.length → Pv k acc S → live S) ∧
  (∀ k x acc S, xs[k]? = some x → Pv k acc S → g x ρ fun ρ2 => tt ρ2 S (fun b S2 => if b = true then te ρ2 S2 (fun y S3 => acc.length < sizeLine ∧ Pv (k + 1) (acc ++ [y]) S3) noX else Pv (k + 1) acc S2) noX) ∧
  ∀ acc S, Pv xs.length acc S → Q (.lst acc) S
theorem c_lc {ρ : Rho} {S : Store} {Q : QD} {E : XQ} {ti : DTI} {g : D → Rho → (Rho → Prop) → Prop} {tt : DTT} {te : DTE} (h : ti ρ S (fun xs live S1 => dLcK g tt te ρ Q xs live S1) E) : dLc ti g tt te ρ S Q E := h
theorem c_lcN {ρ : Rho} {S : Store} {Q : QD} {E : XQ} {ti : DTI} {g : D → Rho → (Rho → Prop) → Prop} {tt : DTT} {te : DTE} (h : ti ρ S (fun xs live S1 => dLcK g tt te ρ (fun d S1 => ∃ xs, d = .lst xs ∧ Q (.ref S1.length) (S1 ++ [.lst xs])) xs live S1) E) : dLcN ti g tt te ρ S Q E := h
/-- items told by a function, a test told by a function -/
theorem o_lcG {ρ : Rho} {S : Store} {Q : QD} {tt : DTT} {te : DTE} {i : Nat} {xs : List D} {live : Store → Prop} (f : D → D) (p : D → Bool) (hl : live S) (hz : xs.length ≤ sizeLine)
    (ht : ∀ x ∈ xs, ∀ P : Bool → Store → Prop, P (p x) S → tt (ρ.set i (some x)) S P noX) (he : ∀ x ∈ xs, p x = true → ∀ P : QD, P (f x) S → te (ρ.set i (some x)) S P noX)
    (h : Q (.lst ((xs.filter p).map f)) S) : dLcK (c1 i) tt te ρ Q xs live S := by
  refine ⟨fun k acc S' => S' = S ∧ acc = ((xs.take k).filter p).map f, ⟨rfl, by simp⟩, fun k acc S' _ ⟨e, _⟩ => e ▸ hl, fun k x acc S' hx ⟨e, ea⟩ => ?_, fun acc S' ⟨e, ea⟩ => ?_⟩
  · subst e ea
    have m := List.mem_of_getElem? hx
    refine ht x m _ ?_
    have st : xs.take (k + 1) = xs.take k ++ [x] := by rw [List.take_succ, hx]; rfl
    cases e : p x with
    | false =>
      rw [if_neg Bool.false_ne_true]
      refine ⟨rfl, ?_⟩
      rw [st, List.filter_append]
      simp [e]
    | true =>
      rw [if_pos rfl]
      refine he x m e _ ⟨?_, rfl, ?_⟩
      · have h1 : k < xs.length := (List.getElem?_eq_some_iff.mp hx).1
        have h2 := List.length_filter_le p (xs.take k)
        rw [List.length_take] at h2
        rw [List.length_map]
        omega
      · rw [st, List.filter_append]
        simp [e]
  · subst e ea
    rw [List.take_length]
    exact h
/-- items told by a function -/
theorem o_lcM {ρ : Rho} {S : Store} {Q : QD} {te : DTE} {i : Nat} {xs : List D} {live : Store → Prop} (f : D → D) (hl : live S) (hz : xs.length ≤ sizeLine)
    (he : ∀ x ∈ xs, ∀ P : QD, P (f x) S → te (ρ.set i (some x)) S P noX) (h : Q (.lst (xs.map f)) S) : dLcK (c1 i) dYes te ρ Q xs live S := by
  refine o_lcG f (fun _ => true) hl hz (fun _ _ P h => h) (fun x m _ => he x m) ?_
  rw [List.filter_eq_self.mpr fun _ _ => rfl]
  exact h
/-- a loop behind its items -/
def dForK (g : DTG) (tb : DTS) (nx : Rho → Store → Prop) (rt : D → Store → Prop) (ex : Exc → Rho → Store → Prop) (ρ : Rho) (xs : List D) (live : Store → Prop) (S1 : Store) : Prop :=
  ∃ Pv : Nat → Rho → Store → Prop, Pv 0 ρ S1 ∧ (∀ i ρ S, i ≤ xs.length → Pv i ρ S → live S) ∧
  (∀ i x ρ S, xs[i]? = some x → Pv i ρ S → g x ρ S fun ρ2 S2 => tb ⟨Pv (i + 1), rt, nx, Pv (i + 1), ex⟩ ρ2 S2) ∧ ∀ ρ S, Pv xs.length ρ S → nx ρ S
theorem s_for {ρ : Rho} {S : Store} {nx bk ct : Rho → Store → Prop} {rt : D → Store → Prop} {ex : Exc → Rho → Store → Prop} {ti : DTI} {g : DTG} {tb : DTS} (h : ti ρ S (fun xs live S1 => dForK g tb nx rt ex ρ xs live S1) (fun x S1 => ex x ρ S1)) : dFor ti g tb ⟨nx, rt, bk, ct, ex⟩ ρ S := h
theorem sz_and {n : Nat} {P : Prop} (h : n ≤ 100000) (k : P) : n ≤ sizeLine ∧ P := ⟨Nat.le_trans h (by decide), k⟩
theorem ifB {c : Bool} {A B : Prop} (h1 : c = true → A) (h2 : c = false → B) : if c = true then A else B := by
  cases c with
  | false => rw [if_neg Bool.false_ne_true]; exact h2 rfl
  | true => rw [if_pos rfl]; exact h1 rfl
theorem ifYes {c : Bool} {A B : Prop} (e : c = true) (h : A) : if c = true then A else B := by rw [if_pos e]; exact h
theorem ifNo {c : Bool} {A B : Prop} (e : c = false) (h : B) : if c = true then A else B := by rw [e, if_neg Bool.false_ne_true]; exact h
theorem small {n : Nat} (h : n ≤ 100000) : n ≤ sizeLine := Nat.le_trans h (by decide)
theorem at0 {α : Type} (xs : List α) : atI xs 0 = xs[0]? := by
  unfold atI ixN
  cases xs <;> simp
theorem atN {α : Type} (xs : List α) (k : Nat) : atI xs (k : Int) = xs[k]? := by
  unfold atI ixN
  by_cases h : k < xs.length
  · simp [h]
  · simp [h]
theorem at1 {α : Type} (xs : List α) : atI xs 1 = xs[1]? := atN xs 1
theorem at2 {α : Type} (xs : List α) : atI xs 2 = xs[2]? := atN xs 2
theorem at3 {α : Type} (xs : List α) : atI xs 3 = xs[3]? := atN xs 3
theorem at4 {α : Type} (xs : List α) : atI xs 4 = xs[4]? := atN xs 4
theorem ixN_0 {n : Nat} (h : 0 < n) : ixN n 0 = some 0 := by unfold ixN; simp; omega
theorem ixN_N {n k : Nat} (h : k < n) : ixN n (k : Int) = some k := by unfold ixN; simp [h]
theorem at_mod {α β : Type} {f : α → β} {xs : List α} {t : Int} (h : xs ≠ []) : ∃ x, atI (xs.map f) (t % (xs.map f).length) = some (f x) := by
  have hp : (0 : Int) < (xs.map f).length := by
    have := List.length_pos_iff.mpr h
    simp; omega
  have h1 := Int.emod_nonneg t (by omega : ((xs.map f).length : Int) ≠ 0)
  have h2 := Int.emod_lt_of_pos t hp
  obtain ⟨k, hk⟩ := Int.eq_ofNat_of_zero_le h1
  rw [hk] at h2 ⊢
  have hkl : k < xs.length := by simp at h2; omega
  exact ⟨xs[k], by rw [atN, List.getElem?_map, List.getElem?_eq_getElem hkl]; rfl⟩
theorem small_fac {i j : Int} (h : CMul i j) : CMulA i j := .inl h
theorem cut_take {xs : List D} {v : Int} (h : 0 ≤ v) : cutD xs none (some v) = xs.take v.toNat := by
  unfold cutD HT.sIx
  simp only [List.drop_zero, Nat.sub_zero]
  rw [if_neg (by omega)]
  by_cases q : v.toNat ≤ xs.length
  · rw [Nat.min_eq_left q]
  · rw [Nat.min_eq_right (by omega), List.take_of_length_le (by omega), List.take_of_length_le (by omega)]
theorem cut_drop {xs : List D} {v : Int} (h : 0 ≤ v) : cutD xs (some v) none = xs.drop v.toNat := by
  unfold cutD HT.sIx
  simp only []
  rw [if_neg (by omega)]
  by_cases q : v.toNat ≤ xs.length
  · rw [Nat.min_eq_left q, List.take_of_length_le (by rw [List.length_drop]; omega)]
  · rw [Nat.min_eq_right (by omega), List.drop_of_length_le (by omega), List.drop_of_length_le (by omega)]; simp
theorem all_int : ∀ {l : List D}, (∀ x ∈ l, ∃ i, x = .int i) → ∃ is : List Int, l = is.map .int
  | [], _ => ⟨[], rfl⟩
  | x :: l, h => by
    obtain ⟨i, rfl⟩ := h x List.mem_cons_self
    obtain ⟨is, rfl⟩ := all_int fun y m => h y (List.mem_cons_of_mem _ m)
    exact ⟨i :: is, rfl⟩
theorem o_sqAnd {S : Store} {d : D} {xs : List D} {P : List D → Prop} (e : sqOf S d = some xs) (h : P xs) : ∃ xs, sqOf S d = some xs ∧ P xs := ⟨xs, e, h⟩
theorem o_lstE {P : List D → Prop} {xs : List D} (h : P xs) : ∃ ys, D.lst xs = .lst ys ∧ P ys := ⟨xs, rfl, h⟩
theorem o_sum {S : Store} {Q : QD} {ns : List Int} (h : Q (.int ns.sum) S) : cSum [.lst (ns.map .int)] S Q := ⟨_, ns, rfl, rfl, h⟩
end Dy
namespace Dy
open PySem PySem.Spec PyProof.Rows L2 PySem.SeqAt

theorem str_eq_dict (b : Str) (u : Tok) (l : Addr) (es : Array DictEntry) (n : Nat) (dd : Option Addr) (sl : Array (Option Value)) :
    Meets (Builtin.«str.__eq__» ⟨[.str b u, .ref l], []⟩) (fun _ R s => s.heap.get? l = some { cls := .type "dict", dict := dd, data := .dict es n, slots := sl } ∧ R (.ok (.ret .notImplemented)) s) :=
  .of_wp fun prog w A R s h => by obtain ⟨hp, g, d, tk, os⟩ := s; obtain ⟨hl, h⟩ := h; have f1 := F.sub_dict_str; wp_walk using wpAny_loadPart' hl; exact ⟨_, rfl, h⟩
theorem dict_eq_str (l : Addr) (es : Array DictEntry) (n : Nat) (dd : Option Addr) (sl : Array (Option Value)) (b : Str) (u : Tok) :
    Meets (Builtin.«dict.__eq__» ⟨[.ref l, .str b u], []⟩) (fun _ R s => s.heap.get? l = some { cls := .type "dict", dict := dd, data := .dict es n, slots := sl } ∧ R (.ok (.ret .notImplemented)) s) :=
  .of_wp fun prog w A R s h => by obtain ⟨hp, g, d, tk, os⟩ := s; obtain ⟨hl, h⟩ := h; have f1 := F.sub_str_dict; wp_walk using wpAny_loadPart' hl; exact ⟨_, rfl, h⟩
theorem eq_str_dict {A : Around} {s : Shared} {l : Addr} {o : Obj} {es : Array DictEntry} {n : Nat} (b : Str) (u : Tok) (ho : s.heap.get? l = some o) (hc : o.cls = .type "dict") (hd : o.data = .dict es n) (hu : A.units < cLine) : EqAt A s (.str b u) (.ref l) false := fun prog w E Q h => by
  unfold eqBool
  refine wpAny_holding ?_
  refine wpAny_ite_split (fun hab => absurd (eq_of_beq hab) nofun) (fun _ => ?_)
  obtain ⟨cls, dd, data, sl⟩ := o
  simp only at hc hd
  subst hc hd
  refine wpAny_bind ?_
  refine rc_eq_decline_or (k := false) (typeIs_str s b u) ⟨_, ho, rfl⟩ (by decide) F.sub_dict_str F.slot_str_eq F.slot_dict_eq_refl
    (fun _ hq => call_meets F.slot_str_eq (typeIs_str s b u) F.entry_str_eq (F.args_str_eq_2 _ _) (str_eq_dict b u l es n dd sl) ⟨ho, hq⟩)
    (fun _ hq => call_meets F.slot_dict_eq_refl ⟨_, ho, rfl⟩ F.entry_dict_eq (F.args_dict_eq_2 _ _) (dict_eq_str l es n dd sl b u) ⟨ho, hq⟩)
    (fun _ hq => wpAny_of_eq (rfl : isSame (.str b u) (.ref l) = pure false) hq) (.inr hu) (wpAny_truthy_bool h)
/-- a list, a tuple, a dict -/
def Cont (K : PySem.W.Frag) (H : Hp) (a : Addr) : Prop := (∃ kvs, H a = some (.dK kvs)) ∨ (∃ vs, SqT K H a vs) ∨ ∃ vs, SqL K H a vs
theorem eq_str_cont {X : Cx} {pins : List (Addr × Obj)} {s : Shared} {σ : L2.St} {H : Hp} {a : Addr} {A : Around} (I : L2.Inv X pins σ H s) (hc : Cont X.K H a) (hu : A.units < cLine) (x : Str) (t : Tok) : EqAt A s (.str x t) (.ref a) false := by
  rcases hc with ⟨kvs, ha⟩ | ⟨vs, hs⟩ | ⟨vs, hs⟩
  · obtain ⟨_, _, vs, _, o, es, ep, g1, g2, g3, _⟩ : ObjOk _ _ H s.heap a (.dK kvs) := I.hok a _ ha
    exact eq_str_dict x t g1 g2.1 g3 hu
  · obtain ⟨its, rv, ⟨o, ho, hc, n, hd⟩, _⟩ := I.tuple hs
    exact EqAt.str_tuple x t ⟨o, ho, hc, n, hd⟩ hu
  · obtain ⟨its, rv, ⟨o, n, ho, hc, _, hd⟩, _⟩ := I.list hs
    exact EqAt.str_list x t ⟨o, ho, hc, n, hd⟩ hu
def rInX (K : PySem.W.Frag) (neg : Bool) : R2 := fun x y H Q => rInP K neg x y H Q ∨ ∃ (a : Addr) (xs : List Str), x = .ref a ∧ Cont K H a ∧ (Dp K H y (.list (xs.map PyData.str)) ∨ Dp K H y (.tuple (xs.map PyData.str))) ∧ Q (.bl neg) H
theorem all_strs {h : Heap} : ∀ {vs : List Value} {xs : List Str} {as : List Addr}, ReadsAll h vs (xs.map PyData.str) as → ∀ y ∈ vs, ∃ x u, y = .str x u
  | [], _, _, _, y, m => nomatch m
  | v :: vs, [], _, r, _, _ => nomatch r
  | v :: vs, x :: xs, _, r, y, m => by
    cases r with
    | cons r1 r2 =>
      rcases List.mem_cons.mp m with rfl | m
      · cases r1 with
        | str x t => exact ⟨x, t, rfl⟩
      · exact all_strs r2 y m
theorem any_no {vs : Array Value} : (vs.any fun _ => false) = false := by
  simp
section
variable {X : Cx}
theorem in_dict {pins : List (Addr × Obj)} {s : Shared} {σ : L2.St} {H : Hp} {y : V} {a : Addr} {xs : List Str} {Q : VK} {u : Value} {f : Bool → Value → Value → Sem Value} (neg : Bool) (hu : X.A.units + 64 < cLine) (I : L2.Inv X pins σ H s) (ha : Cont X.K H a) (dy : Dp X.K H y (.list (xs.map PyData.str)) ∨ Dp X.K H y (.tuple (xs.map PyData.str))) (ry : RelV y u) (q : Q (.bl neg) H)
    (h1 : ∀ l (items : Array Value), u = .ref l → s.heap.IsList l items → (∀ z, z ∈ items → EqAt X.A.in1 s z (.ref a) false) → EP X pins σ Q (.bool (neg ^^ items.any fun _ => false)) s → wpAny (model X.prog X.w) X.A (f neg (.ref a) u) (EP X pins σ Q) X.xe s)
    (h2 : ∀ l (items : Array Value), u = .ref l → s.heap.IsTuple l items → (∀ z, z ∈ items → EqAt X.A.in1 s z (.ref a) false) → EP X pins σ Q (.bool (neg ^^ items.any fun _ => false)) s → wpAny (model X.prog X.w) X.A (f neg (.ref a) u) (EP X pins σ Q) X.xe s) :
    wpAny (model X.prog X.w) X.A (f neg (.ref a) u) (EP X pins σ Q) X.xe s := by
  have eq : ∀ z : Value, (∃ x t, z = .str x t) → EqAt X.A.in1 s z (.ref a) false := fun z ⟨x, t, e⟩ => e ▸ eq_str_cont I ha (by show X.A.units + 1 < cLine; omega) x t
  have fin : ∀ items : Array Value, EP X pins σ Q (.bool (neg ^^ items.any fun _ => false)) s := fun items => ⟨.bl neg, H, I, by rw [any_no]; cases neg <;> rfl, q⟩
  rcases dy with dy | dy
  · obtain ⟨bs, rb⟩ := Dp.reads I _ y u dy ry
    cases rb with
    | list g1 g2 g3 g4 => exact h1 _ _ rfl ⟨_, g1, g2, _, g3⟩ (fun z hz => eq z (all_strs g4 z (by simpa using hz))) (fin _)
  · obtain ⟨bs, rb⟩ := Dp.reads I _ y u dy ry
    cases rb with
    | tuple g1 g2 g3 g4 => exact h2 _ _ rfl ⟨_, g1, g2, _, g3⟩ (fun z hz => eq z (all_strs g4 z (by simpa using hz))) (fin _)
theorem op_inX (hu : X.A.units + 64 < cLine) : OpR X (compareOp .In) (rInX X.K false) := by
  rintro pins s σ H x y v u Q I rx ry (h | ⟨a, xs, rfl, ha, dy, q⟩)
  · exact op_inP hu pins s σ H x y v u Q I rx ry h
  · cases (show v = Value.ref a from rx)
    refine in_dict (f := fun neg => compareOp .In) false hu I ha dy ry q (fun l items e hl he h => ?_) (fun l items e hl he h => ?_)
    · subst e; exact in_listAt _ hl he (by simpa using h)
    · subst e; exact in_tupleAt _ hl he (by simpa using h)
theorem op_ninX (hu : X.A.units + 64 < cLine) : OpR X (compareOp .NotIn) (rInX X.K true) := by
  rintro pins s σ H x y v u Q I rx ry (h | ⟨a, xs, rfl, ha, dy, q⟩)
  · exact op_ninP hu pins s σ H x y v u Q I rx ry h
  · cases (show v = Value.ref a from rx)
    refine in_dict (f := fun neg => compareOp .NotIn) true hu I ha dy ry q (fun l items e hl he h => ?_) (fun l items e hl he h => ?_)
    · subst e; exact notIn_listAt _ hl he (by simpa using h)
    · subst e; exact notIn_tupleAt _ hl he (by simpa using h)
end
def isCont : D → Bool
  | .tup _ => true
  | .lst _ => true
  | .frz _ => true
  | .dic _ _ => true
  | _ => false
/-- x in ys: data without dicts; or a list, a tuple, a dict among strings -/
def dInX (neg : Bool) : D2 := fun x y S Q => dInN neg x y S Q ∨ ∃ xs : List Str, isCont x = true ∧ sqOf S y = some (xs.map .str) ∧ Q (.bl neg) S
theorem cont_of {K : PySem.W.Frag} {φ : Al} {H : Hp} {x : D} {v : V} (h : RD K φ H x v) (c : isCont x = true) : ∃ a, v = .ref a ∧ Cont K H a := by
  cases x with
  | tup xs => rw [RD] at h; obtain ⟨a, vs, rfl, h1, _⟩ := h; exact ⟨a, rfl, .inr (.inl ⟨_, h1⟩)⟩
  | lst xs => rw [RD] at h; obtain ⟨a, vs, rfl, h1, _⟩ := h; exact ⟨a, rfl, .inr (.inr ⟨_, h1.sq⟩)⟩
  | frz xs => rw [RD] at h; obtain ⟨a, vs, rfl, h1, _⟩ := h; exact ⟨a, rfl, .inr (.inr ⟨_, h1.sq⟩)⟩
  | dic ks xs => rw [RD] at h; obtain ⟨a, vs, rfl, h1, _⟩ := h; exact ⟨a, rfl, .inl ⟨_, h1.1⟩⟩
  | _ => cases c
theorem pyDs_strs : ∀ xs : List Str, pyDs (xs.map .str) = some (xs.map .str)
  | [] => by rw [List.map_nil, pyDs]; rfl
  | x :: xs => by rw [List.map_cons, pyDs, pyD, pyDs_strs xs]; rfl
theorem lk_inXN {K : PySem.W.Frag} (neg : Bool) : Lk K (dInX neg) (rInX K neg) := by
  rintro φ S H Q' Q x y v1 v2 r r1 r2 q (h | ⟨xs, c, e, h⟩)
  · exact .inl (lk_inN neg φ S H Q' Q x y v1 v2 r r1 r2 q h)
  · obtain ⟨a, rfl, hc⟩ := cont_of r1 c
    obtain ⟨b, ws, rfl, h3, h4⟩ := sq_of r r2 e
    obtain ⟨j1, _⟩ := dps_of _ ws _ h4 (pyDs_strs xs)
    refine .inr ⟨a, xs, rfl, hc, ?_, q φ H S _ _ .refl r rd_bl h⟩
    rcases h3 with h3 | h3
    · exact .inl (.lst h3 j1)
    · exact .inr (.tup h3 j1)
theorem lk_inX {K : PySem.W.Frag} : Lk K (dInX false) (rInX K false) := lk_inXN false
theorem lk_ninX {K : PySem.W.Frag} : Lk K (dInX true) (rInX K true) := lk_inXN true
section
variable {F : Fam} {k : Nat}
theorem oq_inX (hr : ∀ i, Room k (F.X i).A) (i : F.ι) : OpR (F.X i) (compareOp .In) (rInX F.K false) := F.hK i ▸ op_inX (hr i).units
theorem oq_ninX (hr : ∀ i, Room k (F.X i).A) (i : F.ι) : OpR (F.X i) (compareOp .NotIn) (rInX F.K true) := F.hK i ▸ op_ninX (hr i).units
end
def inS (xs : List Str) : D → Bool
  | .str s => xs.any fun x => decide (x = s)
  | _ => false
/-- a value that isinstance and == ask by its kind -/
def plainD : D → Bool
  | .non => true
  | .bl _ => true
  | .int _ => true
  | .str _ => true
  | d => isCont d
theorem any_eqv {xs : List Str} {p : PyData} {f : Str → Bool} (h : ∀ x, PyData.eqv (.str x) p = f x) : ((xs.map PyData.str).any fun z => PyData.eqv z p) = xs.any f := by
  rw [List.any_map]
  congr 1
  funext x
  exact h x
theorem o_inS {S : Store} {Q : QD} {neg : Bool} {d y : D} {xs : List Str} (e : sqOf S y = some (xs.map .str)) (c : plainD d = true) (h : Q (.bl (neg ^^ inS xs d)) S) : dInX neg d y S Q := by
  have sc : ∀ p : PyData, pyS S d = some p → p.depth = 0 → (∀ f : Str → Bool, (∀ x, PyData.eqv (.str x) p = f x) → Q (.bl (neg ^^ xs.any f)) S) → dInX neg d y S Q := fun p e1 hd hq =>
    .inl ⟨p, _, _, e1, e, pyDs_strs xs, by rw [hd]; omega, by rw [any_eqv fun _ => rfl]; exact hq _ fun _ => rfl⟩
  have ct : isCont d = true → inS xs d = false → dInX neg d y S Q := fun c e2 => .inr ⟨xs, c, e, by rw [e2] at h; simpa using h⟩
  have no : ∀ f : Str → Bool, (∀ x, f x = false) → xs.any f = false := fun f h => by
    have : f = fun _ => false := funext h
    rw [this]; simp
  cases d with
  | non => exact sc .none rfl (by rw [PyData.depth] <;> intros <;> contradiction) fun f hf => by rw [no f fun x => (hf x).symm.trans (by rw [PyData.eqv])]; exact h
  | bl b => exact sc (.bool b) rfl (by rw [PyData.depth] <;> intros <;> contradiction) fun f hf => by rw [no f fun x => (hf x).symm.trans (by rw [PyData.eqv])]; exact h
  | int b => exact sc (.int b) rfl (by rw [PyData.depth] <;> intros <;> contradiction) fun f hf => by rw [no f fun x => (hf x).symm.trans (by rw [PyData.eqv])]; exact h
  | str b =>
    refine sc (.str b) rfl (by rw [PyData.depth] <;> intros <;> contradiction) fun f hf => ?_
    have : f = fun x => decide (x = b) := funext fun x => (hf x).symm.trans (by rw [PyData.eqv]; exact PySem.W.beq_decide x b)
    rw [this]; exact h
  | tup _ => exact ct rfl rfl
  | lst _ => exact ct rfl rfl
  | frz _ => exact ct rfl rfl
  | dic _ _ => exact ct rfl rfl
  | ty _ => cases c
  | ref _ => cases c
  | cls _ => cases c
  | exo _ _ _ _ => cases c
def tagD : D → String
  | .non => "NoneType"
  | .bl _ => "bool"
  | .int _ => "int"
  | .str _ => "str"
  | .tup _ => "tuple"
  | .dic _ _ => "dict"
  | _ => "list"
theorem tag_plain {S : Store} {d : D} (c : plainD d = true) : tagOf S d = some (tagD d) := by
  cases d <;> first | rfl | cases c
theorem o_isiP {S : Store} {Q : QD} {T : String} {d : D} (c : plainD d = true) (h : Q (.bl (isiT T (tagD d))) S) : cIsi T [d, .ty T] S Q := ⟨d, _, rfl, tag_plain c, h⟩
theorem o_all {S : Store} {Q : QD} {g : D → Bool} {xs : List D} (h : Q (.bl (xs.all g)) S) : cAll [.lst (xs.map fun x => .bl (g x))] S Q := by
  refine ⟨_, xs.map g, rfl, by rw [List.map_map]; rfl, ?_⟩
  rw [List.all_map]
  exact h
theorem o_any {S : Store} {Q : QD} {g : D → Bool} {xs : List D} (h : Q (.bl (xs.any g)) S) : cAny [.lst (xs.map fun x => .bl (g x))] S Q := by
  refine ⟨_, xs.map g, rfl, by rw [List.map_map]; rfl, ?_⟩
  rw [List.any_map]
  exact h
/-- plain data, of tuples, lists that nobody changes, and empty dicts -/
inductive Dat : D → Prop
  | non : Dat .non
  | bl (b : Bool) : Dat (.bl b)
  | int (i : Int) : Dat (.int i)
  | str (s : Str) : Dat (.str s)
  | dic : Dat (.dic [] [])
  | tup {xs : List D} (h : ∀ x ∈ xs, Dat x) (z : xs.length ≤ 1000) : Dat (.tup xs)
  | lst {xs : List D} (h : ∀ x ∈ xs, Dat x) (z : xs.length ≤ 1000) : Dat (.lst xs)
theorem Dat.plain {d : D} (h : Dat d) : plainD d = true := by cases h <;> rfl
end Dy
namespace Dy
open PySem PySem.Spec PyProof.Rows L2

/-! ### constants of the module, classes, errors: as callers know them -/
def Kst (K : PySem.W.Frag) (mg : Str → Option Value) (x : Str) (d : D) : Prop := ∃ v u, mg x = some u ∧ RelV v u ∧ ∀ φ H, RD K φ H d v
section
variable {F : Fam} {W : WX} {e e2 : Expr} {es : List Expr} {te : DTE} {t : DTA} {p pos pos2 : Pos} {k k2 : Nat} {x f : Str} {ps : List Str} {sp : DSp} {C : Addr} {d : D}
theorem de_k {mg : Str → Option Value} (hmg : ∀ i, (F.X i).mg = mg) (h : Kst F.K mg x d) (hg : ∀ i, Gl (F.X i) x := by intro _; rfl) (hd : (x == ("__debug__" : Str)) = false := by decide) : DE F W (.Name x pos) (dC d) := by
  obtain ⟨v, u, h1, h2, h3⟩ := h
  exact ⟨tC v, fun i => pe_glob (hg i) (by rw [hmg i]; exact h1) h2 hd, fun σ ρ φ S H E Q' Q o q k => q φ H S _ _ .refl o.sr (h3 φ H) k⟩
/-- a class with an __init__ -/
def CalM (P : Program) (w : World) (K : PySem.W.Frag) (mg : Str → Option Value) (base : Heap) (x : Str) (C : Addr) (k : Nat) (ps : List Str) (sp : DSp) : Prop :=
  ∃ fi fd, L2.Mk K C fi ∧ FnOk P w K mg base (L2.CX P w) k fi fd ps (liftSp K sp) ∧ mg x = some (.ref C) ∧ Binds K fd ps []
abbrev CalMF (F : Fam) (x : Str) (C : Addr) (k : Nat) (ps : List Str) (sp : DSp) : Prop := ∀ i, CalM (F.X i).prog (F.X i).w (F.X i).K (F.X i).mg (F.X i).base x C k ps sp
theorem de_makeC (c : CalMF F x C k ps sp) (hr : ∀ i, Room k2 (F.X i).A) (hk : k + 1 ≤ k2) (tk : ∀ i, Takes (F.X i) W) (ha : DA F W (e :: es) t) (hg : ∀ i, Gl (F.X i) x := by intro _; rfl) (hdb : (x == ("__debug__" : Str)) = false := by decide)
    (he : ∀ i, starEach (e :: es) (F.X i).env = (false, eval e (F.X i).env) :: starEach es (F.X i).env := by intro _; rfl) (hpl : ∀ i, (backTo pos (starEach es (F.X i).env)).any (·.1) = false := by intro _; rfl) :
    DE F W (.Call (.Name x p) (e :: es) [] pos) (dMake C sp t) := by
  obtain ⟨t1, p1, k1⟩ := ha
  refine ⟨_, fun i => ?_, fun σ ρ φ S H E Q' Q o q h => k1 σ ρ φ S H E _ _ o (fun φ1 H1 S1 ds vs s1 r1 rd h1 => make_link (o.mono s1 r1) (q.mono s1) rd h1) h⟩
  obtain ⟨fi, fd, M, G, gm, bd⟩ := c i
  rw [F.hK i] at G
  have G' : FnOk (F.X i).prog (F.X i).w (F.X i).K (F.X i).mg (F.X i).base (L2.CX (F.X i).prog (F.X i).w) k fi fd ps (liftSp F.K sp) := by rw [F.hK i]; exact G
  exact pe_makeS' M G' ((hr i).mono hk) (hg i) gm bd (fun σ => passAt (tk i) σ) (p1 i) hdb (he i) (hpl i)
/-- an error class with one field -/
def CalE (P : Program) (w : World) (K : PySem.W.Frag) (mg : Str → Option Value) (base : Heap) (x : Str) (C : Addr) (f : Str) : Prop :=
  ∃ fI fd, ErrF K C f fI ∧ mg x = some (.ref C) ∧ FnOk P w K mg base (L2.CX P w) 1 fI fd ["self", f] (spEI C f) ∧ Binds K fd ["self", f] []
abbrev CalEF (F : Fam) (x : Str) (C : Addr) (f : Str) : Prop := ∀ i, CalE (F.X i).prog (F.X i).w (F.X i).K (F.X i).mg (F.X i).base x C f
theorem ds_raiseC (hc : ∀ i, (F.X i).calm = true) {P : Program} {w : World} {mg : Str → Option Value} {base : Heap} (c : CalE P w F.K mg base x C f) (hP : ∀ i, (F.X i).prog = P) (hw : ∀ i, (F.X i).w = w) (hmg : ∀ i, (F.X i).mg = mg) (hb : ∀ i, (F.X i).base = base) (tk : ∀ i, Takes (F.X i) W) (hr : ∀ i, Room k2 (F.X i).A) (hk : 2 ≤ k2)
    (he : DE F W e te) (hg : ∀ i, Gl (F.X i) x := by intro _; rfl) (hdb : (x == ("__debug__" : Str)) = false := by decide)
    (hs : ∀ i, starEach [e] (F.X i).env = (false, eval e (F.X i).env) :: starEach [] (F.X i).env := by intro _; rfl) (hpl : ∀ i, (backTo pos (starEach [] (F.X i).env)).any (·.1) = false := by intro _; rfl) :
    DS F W (.Raise (some (.Call (.Name x p) [e] [] pos)) none pos2) (dRaiseF C f te) := by
  obtain ⟨fI, fd, T, gm, G, bd⟩ := c
  exact ds_raiseF hc T tk (fun i => by rw [hmg i]; exact gm) (fun i => by rw [hP i, hw i, hmg i, hb i, F.hK i]; exact G) (fun i => (hr i).mono hk) (fun i => by rw [F.hK i]; exact bd) he hg hdb hs hpl
/-- statements that are never reached -/
theorem dss_no {sts : List Stmt} : DSs F W sts (fun _ _ _ => False) := ⟨fun _ _ _ => False, fun i => ⟨fun pins s σ H D I h => h.elim⟩, fun _ _ _ _ _ _ _ _ _ _ h => h.elim⟩
end
/-! ### isinstance(e, C) of a caught error with a field -/
def cIsE (a dd : Addr) (kt : D → Option Bool) : DR := fun ds S Q => ∃ ks xs c b, ds = [.exo a dd ks xs, c] ∧ kt c = some b ∧ Q (.bl b) S
/-- kt tells whether C is under a class -/
def KitOf (K : PySem.W.Frag) (C : Addr) (kt : D → Option Bool) : Prop := ∀ c b, kt c = some b → (∃ n, c = .ty n ∧ PySem.W.kitOne K (.ref C) (.type n) = some b) ∨ ∃ C2, c = .cls C2 ∧ PySem.W.kitOne K (.ref C) (.ref C2) = some b
theorem lk_isE {K : PySem.W.Frag} {C a dd : Addr} {kt : D → Option Bool} (h : KitOf K C kt) : LkC K (cIsE a dd kt) (rIsX K C a (some dd)) := by
  rintro φ S H Q' Q ds vs r rd q ⟨ks, xs, c, b, rfl, e, hq⟩
  obtain ⟨v, w, rfl, h1, h2⟩ := rds2 rd
  rw [RD] at h1
  obtain ⟨us, rfl, g1, g2, g3⟩ := h1
  have fin : Q (.bl b) H := q φ H S _ _ .refl r rd_bl hq
  have hx : ∀ d', some dd = some d' → ∃ fs, H d' = some (.xd fs) := fun d' e => by cases e; exact ⟨_, g1⟩
  rcases h c b e with ⟨n, rfl, hk⟩ | ⟨C2, rfl, hk⟩
  · rw [RD] at h2
    subst h2
    exact ⟨.ty n, .type n, b, rfl, .ty n, hk, hx, fin⟩
  · rw [RD] at h2
    subst h2
    exact ⟨.ref C2, .ref C2, b, rfl, .own C2, hk, hx, fin⟩
section
variable {F : Fam} {W : WX} {a C dd : Addr} {e e2 : Expr} {t : DTA} {p pos : Pos} {kt : D → Option Bool}
theorem dc_isE (T : ExcI F.K C) (h : KitOf F.K C kt) (hm : ∀ i, ((F.su a (.ref C) (some dd)).X i).mg "isinstance" = none) (ha : DA (F.su a (.ref C) (some dd)) W [e, e2] t) (hg : ∀ i, Gl ((F.su a (.ref C) (some dd)).X i) "isinstance" := by intro _; rfl)
    (he : St1 (F.su a (.ref C) (some dd)) e [e2] := by intro _; rfl) (hp : Pl1 (F.su a (.ref C) (some dd)) pos [e2] := by intro _; rfl) : DE (F.su a (.ref C) (some dd)) W (.Call (.Name "isinstance" p) [e, e2] [] pos) (dCB (cIsE a dd kt) t) := by
  refine de_callB (fun j => ?_) (lk_isE h) hg hm bt_isinstance ha (he := he) (hpl := hp)
  obtain ⟨i, oe, pn, z, fv⟩ := j
  have T' : ExcI (F.X i).K C := by rw [F.hK]; exact T
  have := call_isX (X := F.X i) (a := a) (pn := pn) T' z fv
  rw [F.hK] at this
  exact this
end
theorem o_isE {a dd : Addr} {kt : D → Option Bool} {ks : List Str} {xs : List D} {c : D} {b : Bool} {S : Store} {Q : QD} (e : kt c = some b) (h : Q (.bl b) S) : cIsE a dd kt [.exo a dd ks xs, c] S Q := ⟨ks, xs, c, b, rfl, e, h⟩
/-! ### {} -/
def oFld (P : Addr → Prop) (f : Str) (d : D) (S : Store) (Q : QD) : Prop := ∃ n C fs v, d = .ref n ∧ S[n]? = some (.ins C fs) ∧ P C ∧ fs.lookup f = some v ∧ Q v S
def oSetF (P : Addr → Prop) (f : Str) (d o : D) (R : Store → Prop) (S : Store) : Prop := ∃ n C fs, o = .ref n ∧ S[n]? = some (.ins C fs) ∧ P C ∧ fs.length < 1000 ∧ R (S.set n (.ins C (putD f d fs)))

def dDnil : DTE := fun _ S Q _ => Q (.dic [] []) S
theorem pe_dnil {X : Cx} {pos : Pos} : PE X (.Dict [] [] pos) (fun _ H Q => ∀ p, H p = none → Q (.ref p) (upd H p (.dK []))) :=
  ⟨fun pins s σ H Q I q => wpAny_Dict_empty
    ⟨.ref s.heap.objs.size, _, I.laid (a := s.heap.objs.size) (o := .dK []) (h' := s.heap.push { cls := .type "dict", data := .dict #[] }) (t' := s.toks) (fun _ _ g => Heap.get?_push_of_some _ g) (Nat.le_refl _) (dk_empty s.heap I.big), rfl,
      q _ (I.hok.fresh (Nat.le_refl _))⟩⟩
theorem de_dnil {F : Fam} {W : WX} {pos : Pos} : DE F W (.Dict [] [] pos) dDnil :=
  ⟨_, fun i => pe_dnil, fun σ ρ φ S H E Q' Q o q h p hp => q φ _ S _ _ (step_new hp) (o.sr.new hp) (by rw [RD]; exact ⟨p, [], rfl, ⟨upd_same, o.sr.out hp, o.sr.outb hp⟩, rfl, .nil⟩) h⟩
theorem c_dnil {ρ : Rho} {S : Store} {Q : QD} {E : XQ} (h : Q (.dic [] []) S) : dDnil ρ S Q E := h
theorem c_make {C : Addr} {sp : DSp} {t : DTA} {ρ : Rho} {S : Store} {Q : QD} {E : XQ} (h : t ρ S (fun ds S1 => sp (.ref S1.length :: ds) (S1 ++ [.ins C []]) (fun d S2 => d = .non ∧ Q (.ref S1.length) S2) E) E) : dMake C sp t ρ S Q E := h
theorem c_fld {P : Addr → Prop} {f : Str} {to : DTE} {ρ : Rho} {S : Store} {Q : QD} {E : XQ} (h : to ρ S (fun d S1 => oFld P f d S1 Q) E) : dFld P f to ρ S Q E := h
theorem o_fld {P : Addr → Prop} {f : Str} {n : Nat} {C : Addr} {fs : List (Str × D)} {v : D} {S : Store} {Q : QD} (e : S[n]? = some (.ins C fs)) (hP : P C) (hl : fs.lookup f = some v) (h : Q v S) : oFld P f (.ref n) S Q := ⟨n, C, fs, v, rfl, e, hP, hl, h⟩
theorem s_setF {P : Addr → Prop} {f : Str} {to te : DTE} {nx bk ct : Rho → Store → Prop} {rt : D → Store → Prop} {ex : Exc → Rho → Store → Prop} {ρ : Rho} {S : Store} (h : te ρ S (fun d S1 => to ρ S1 (fun o S2 => oSetF P f d o (nx ρ) S2) (fun x S1 => ex x ρ S1)) (fun x S1 => ex x ρ S1)) : dSetF P f to te ⟨nx, rt, bk, ct, ex⟩ ρ S := h
theorem o_setF {P : Addr → Prop} {f : Str} {d : D} {n : Nat} {C : Addr} {fs : List (Str × D)} {S : Store} {R : Store → Prop} (e : S[n]? = some (.ins C fs)) (hP : P C) (hz : fs.length < 1000)
    (h : ∀ S', S'.length = S.length → S'[n]? = some (.ins C (putD f d fs)) → (∀ m : Nat, m ≠ n → S'[m]? = S[m]?) → R S') : oSetF P f d (.ref n) R S :=
  ⟨n, C, fs, rfl, e, hP, hz, h _ (by simp) (List.getElem?_set_self (List.getElem?_eq_some_iff.mp e).1) fun m hm => List.getElem?_set_ne (Ne.symm hm)⟩
theorem s_raiseF {C : Addr} {f : Str} {te : DTE} {nx bk ct : Rho → Store → Prop} {rt : D → Store → Prop} {ex : Exc → Rho → Store → Prop} {ρ : Rho} {S : Store} (h : te ρ S (fun d S1 => ex ⟨C, some [(f, d)]⟩ ρ S1) (fun x S1 => ex x ρ S1)) : dRaiseF C f te ⟨nx, rt, bk, ct, ex⟩ ρ S := h
theorem s_tryAs {em : Addr → Option Bool} {i : Nat} {tb : DTS} {ts : Addr → Exc → Option Addr → DTS} {nx bk ct : Rho → Store → Prop} {rt : D → Store → Prop} {ex : Exc → Rho → Store → Prop} {ρ : Rho} {S : Store}
    (h : tb ⟨nx, rt, bk, ct, fun x ρ1 S1 => ∃ b, em x.C = some b ∧ (b = true → ∀ a d, d.isSome = x.fs.isSome → ts a x d ⟨fun ρ2 S2 => nx (ρ2.set i none) S2, rt, fun ρ2 S2 => bk (ρ2.set i none) S2, fun ρ2 S2 => ct (ρ2.set i none) S2, fun _ _ _ => False⟩ (ρ1.set i (some (exV a d x))) S1) ∧ (b = false → ex x ρ1 S1)⟩ ρ S) :
    dTryAs em i tb ts ⟨nx, rt, bk, ct, ex⟩ ρ S := h
def oXe (a dd : Addr) (f : Str) (v : D) (S1 : Store) (Q : QD) : Prop := ∃ ks xs u, v = .exo a dd ks xs ∧ (ks.zip xs).lookup f = some u ∧ Q u S1
def dXe (a dd : Addr) (f : Str) (te : DTE) : DTE := fun ρ S Q E => te ρ S (fun v S1 => oXe a dd f v S1 Q) E
theorem de_xe {F : Fam} {W : WX} {a C dd : Addr} {e : Expr} {te : DTE} {f : Str} {pos : Pos} (T : XfC F.K C) (hno : PySem.W.findIn F.K (.ref C) f = some none) (he : DE (F.su a (.ref C) (some dd)) W e te) (hb : ∀ i, attributeBase e f ((F.su a (.ref C) (some dd)).X i).env (eval e ((F.su a (.ref C) (some dd)).X i).env) = eval e ((F.su a (.ref C) (some dd)).X i).env := by intro _; rfl) :
    DE (F.su a (.ref C) (some dd)) W (.Attribute e f pos) (dXe a dd f te) := de_xf T hno he hb
def tsOnly (C : Addr) (t : Addr → Addr → DTS) (a : Addr) (x : Exc) : Option Addr → DTS
  | some dd => if x.C = C then t a dd else fun _ _ _ => False
  | none => fun _ _ _ => False
/-- a suite that takes errors of one class with fields alone -/
theorem su_only {F : Fam} {sts : List Stmt} {C : Addr} {t : Addr → Addr → DTS} (h : ∀ a dd, DSs (F.su a (.ref C) (some dd)) W0 sts (t a dd)) (a : Addr) (x : Exc) (d : Option Addr) : DSs (F.su a (.ref x.C) d) W0 sts (tsOnly C t a x d) := by
  cases d with
  | none => exact dss_no
  | some dd =>
    by_cases e : x.C = C
    · have := h a dd
      rw [← e] at this
      have e2 : tsOnly C t a x (some dd) = t a dd := if_pos e
      rw [e2]
      exact this
    · have e2 : tsOnly C t a x (some dd) = fun _ _ _ => False := if_neg e
      rw [e2]
      exact dss_no
def emOne (c C : Addr) : Option Bool := if C = c then some true else none
theorem em_one {K : PySem.W.Frag} {c : Addr} (h : PySem.W.exmOne K (.ref c) (.ref c) = some true) : ∀ C b, emOne c C = some b → PySem.W.exmOne K (.ref C) (.ref c) = some b := fun C b e => by
  unfold emOne at e
  by_cases q : C = c
  · rw [if_pos q] at e
    cases e
    rw [q]; exact h
  · rw [if_neg q] at e
    cases e
def ktOne (c : Addr) : D → Option Bool
  | .ty n => if n = "ValueError" then some true else none
  | .cls C => if C = c then some true else none
  | _ => none
theorem kit_one {K : PySem.W.Frag} {c C : Addr} (h1 : PySem.W.kitOne K (.ref C) (.type "ValueError") = some true) (h2 : PySem.W.kitOne K (.ref C) (.ref c) = some true) : KitOf K C (ktOne c) := fun x b e => by
  cases x with
  | ty n =>
    have e : (if n = "ValueError" then some true else none) = some b := e
    by_cases q : n = "ValueError"
    · rw [if_pos q] at e; cases e; exact .inl ⟨n, rfl, by rw [q]; exact h1⟩
    · rw [if_neg q] at e; cases e
  | cls D =>
    have e : (if D = c then some true else none) = some b := e
    by_cases q : D = c
    · rw [if_pos q] at e; cases e; exact .inr ⟨D, rfl, by rw [q]; exact h2⟩
    · rw [if_neg q] at e; cases e
  | _ => cases e
theorem tr_tk {F : Fam} {W : WX} (j : (F.tr W).ι) : Takes ((F.tr W).X j) W := j.2.2.2.1
theorem tr_hp {F : Fam} {W : WX} (j : (F.tr W).ι) : PassesOwn (model ((F.tr W).X j).prog ((F.tr W).X j).w) ((F.tr W).X j).A ((F.tr W).X j).env ((F.tr W).X j).xe := j.2.2.2.2
theorem s_only {C : Addr} {t : Addr → Addr → DTS} {a dd : Addr} {fs : Option (List (Str × D))} {D' : DEnds} {ρ : Rho} {S : Store} (h : t a dd D' ρ S) : tsOnly C t a ⟨C, fs⟩ (some dd) D' ρ S := by
  have e : tsOnly C t a ⟨C, fs⟩ (some dd) = t a dd := if_pos rfl
  rw [e]; exact h
theorem c_xe {a dd : Addr} {f : Str} {te : DTE} {ρ : Rho} {S : Store} {Q : QD} {E : XQ} (h : te ρ S (fun v S1 => oXe a dd f v S1 Q) E) : dXe a dd f te ρ S Q E := h
theorem o_xe {a dd : Addr} {f : Str} {ks : List Str} {xs : List D} {u : D} {S : Store} {Q : QD} (e : (ks.zip xs).lookup f = some u) (h : Q u S) : oXe a dd f (.exo a dd ks xs) S Q := ⟨ks, xs, u, rfl, e, h⟩
end Dy
namespace Dy
open PySem PySem.Spec PyProof.Rows L2
/-- data of tuples, at most n deep -/
def okD : Nat → D → Bool
  | _, .non => true
  | _, .bl _ => true
  | _, .int _ => true
  | _, .str _ => true
  | n + 1, .tup xs => xs.all (okD n)
  | _, _ => false
mutual
theorem py_ok : ∀ (n : Nat) (d : D), okD n d = true → ∃ p, pyD d = some p ∧ p.depth ≤ n ∧ p.plain = true
  | n, .non, _ => ⟨.none, by rw [pyD], by rw [PyData.depth] <;> first | omega | (intros; contradiction), rfl⟩
  | n, .bl b, _ => ⟨.bool b, by rw [pyD], by rw [PyData.depth] <;> first | omega | (intros; contradiction), rfl⟩
  | n, .int b, _ => ⟨.int b, by rw [pyD], by rw [PyData.depth] <;> first | omega | (intros; contradiction), rfl⟩
  | n, .str b, _ => ⟨.str b, by rw [pyD], by rw [PyData.depth] <;> first | omega | (intros; contradiction), rfl⟩
  | n + 1, .tup xs, h => by
    obtain ⟨ps, e, hd, hp⟩ := pys_ok n xs (by unfold okD at h; exact h)
    exact ⟨.tuple ps, by rw [pyD, e]; rfl, by rw [PyData.depth]; omega, by rw [PyData.plain]; exact hp⟩
  | 0, .tup _, h => by unfold okD at h; cases h
  | _, .lst _, h => by unfold okD at h; cases h
  | _, .frz _, h => by unfold okD at h; cases h
  | _, .dic _ _, h => by unfold okD at h; cases h
  | _, .ref _, h => by unfold okD at h; cases h
  | _, .ty _, h => by unfold okD at h; cases h
  | _, .cls _, h => by unfold okD at h; cases h
  | _, .exo _ _ _ _, h => by unfold okD at h; cases h
theorem pys_ok : ∀ (n : Nat) (xs : List D), xs.all (okD n) = true → ∃ ps, pyDs xs = some ps ∧ PyData.depthAll ps ≤ n ∧ PyData.plainAll ps = true
  | n, [], _ => ⟨[], by rw [pyDs], by rw [PyData.depthAll]; omega, by rw [PyData.plainAll]⟩
  | n, x :: xs, h => by
    rw [List.all_cons, Bool.and_eq_true] at h
    obtain ⟨p, e1, h1, h2⟩ := py_ok n x h.1
    obtain ⟨ps, e3, h3, h4⟩ := pys_ok n xs h.2
    exact ⟨p :: ps, by rw [pyDs, e1, e3]; rfl, by rw [PyData.depthAll]; omega, by rw [PyData.plainAll, h2, h4]; rfl⟩
end
/-- two tuples of like data are like -/
theorem o_eqT {S : Store} {Q : QD} {neg : Bool} {xs : List D} {n : Nat} (h : okD n (.tup xs) = true) (hn : n ≤ 60) (k : Q (.bl (neg ^^ true)) S) : dEqN neg (.tup xs) (.tup xs) S Q := by
  obtain ⟨p, e, hd, hp⟩ := py_ok n _ h
  show ∃ d e, pyS S (.tup xs) = some d ∧ pyS S (.tup xs) = some e ∧ min d.depth e.depth ≤ 60 ∧ Q (.bl (neg ^^ PyData.eqv d e)) S
  exact ⟨p, p, e, e, by omega, by rw [PySem.SeqAt.eqv_refl_plain p hp]; exact k⟩
/-- a comprehension whose items change the store: R holds of it, p of the items -/
theorem o_lcP {ρ : Rho} {S : Store} {Q : QD} {te : DTE} {i : Nat} {xs : List D} {live : Store → Prop} (R : Store → Prop) (p : D → Prop) (hl : ∀ S', R S' → live S') (h0 : R S) (hz : xs.length ≤ sizeLine)
    (he : ∀ x ∈ xs, ∀ S', R S' → ∀ P : QD, (∀ y S2, p y → R S2 → P y S2) → te (ρ.set i (some x)) S' P noX) (h : ∀ ys S', R S' → ys.length = xs.length → (∀ y ∈ ys, p y) → Q (.lst ys) S') : dLcK (c1 i) dYes te ρ Q xs live S := by
  refine ⟨fun k acc S' => R S' ∧ acc.length = k ∧ ∀ y ∈ acc, p y, ⟨h0, rfl, by simp⟩, fun k acc S' _ hh => hl S' hh.1, fun k x acc S' hx hh => ?_, fun acc S' hh => h acc S' hh.1 hh.2.1 hh.2.2⟩
  obtain ⟨hR, ha, hp⟩ := hh
  have m := List.mem_of_getElem? hx
  have hk : k < xs.length := (List.getElem?_eq_some_iff.mp hx).1
  show if true = true then te (ρ.set i (some x)) S' (fun y S3 => acc.length < sizeLine ∧ (R S3 ∧ (acc ++ [y]).length = k + 1 ∧ ∀ z ∈ acc ++ [y], p z)) noX else (R S' ∧ acc.length = k + 1 ∧ ∀ z ∈ acc, p z)
  rw [if_pos rfl]
  refine he x m S' hR _ fun y S2 py R2 => ⟨by omega, R2, by simp [ha], fun z mz => ?_⟩
  rcases List.mem_append.mp mz with mz | mz
  · exact hp z mz
  · rw [List.mem_singleton.mp mz]; exact py
theorem rng_len {lo : Int} {n : Nat} : (rngD lo n).length = n := by unfold rngD; simp
end Dy
namespace Dy
open PySem PySem.Spec PyProof.Rows L2
/-- the law's own promise -/
def spLaw : DSp := fun ds S Q E => ∃ ns : List Int, ds = [.frz (ns.map .int)] ∧ S = [] ∧ ∀ S', Q (.bl true) S'
theorem rds_ints {K : PySem.W.Frag} {φ : Al} {H : Hp} : ∀ ns : List Int, RDs K φ H (ns.map D.int) (ns.map V.int)
  | [] => by rw [List.map_nil, List.map_nil, RDs]
  | n :: ns => by rw [List.map_cons, List.map_cons, RDs]; exact ⟨_, _, rfl, by rw [RD], rds_ints ns⟩
theorem law_starts {K : PySem.W.Frag} {H : Hp} {a : Addr} {ns : List Int} (o : Only H) (h : SqL K H a (ns.map V.int)) : liftSp K spLaw [V.ref a] H (fun v _ => v = .bl true) fun _ _ _ => False := by
  have hf : FrF K H a (ns.map V.int) := by
    rcases h with (h | ⟨p, h⟩) | h
    · rcases o a with e | ⟨p, xs, e⟩
      · rw [e] at h; cases h
      · rw [e] at h; cases h
    · exact .inl ⟨p, h⟩
    · exact .inr (.inr h)
  refine ⟨⟨[], []⟩, [], [.frz (ns.map .int)], fun d _ => d = .bl true, fun _ _ => False, ⟨List.nodup_nil, rfl, fun n a o h => by simp at h, (fun a h => nomatch h), (fun a h => nomatch h)⟩, ?_, ⟨ns, rfl, rfl, fun _ => rfl⟩, ?_, ?_⟩
  · rw [RDs]
    exact ⟨_, _, rfl, by rw [RD]; exact ⟨a, _, rfl, hf, rds_ints ns⟩, by rw [RDs]⟩
  · intro φ' H' S' d v s r rd e
    cases e
    rw [RD] at rd
    exact rd
  · intro φ' H' S' x cls d s r xr z
    exact z.elim
theorem dy_walk {l : PySem.W.OpenLaw} {k : Nat} {q : Program} {loose : List Str} {XP : (Str → Option Value) → Heap → Prop} {YP : World → Heap → Prop} {d : DefRec} {K : Params → PySem.W.Frag} (hn : l.most = some 63) (hdf : d.params.defaults = []) (hr : Room k PySem.callerA)
    (hY : ∀ (w : World) (h : Heap), YP w h → (K w.params).In h)
    (F : ∀ (w : World) (mg : Str → Option Value) (fa : Addr) (h : Heap), (K w.params).In h → h.Ns mainGlobals mg → mg d.name = some (.ref fa) →
      ∃ fd : FuncData, (∀ (s : Shared) (u : Value), BindsTo s fd ⟨[u], []⟩ [("script", u)]) ∧ ∀ base : Heap, (K w.params).In base → base.Ns mainGlobals mg → FnOk l.prog w (K w.params) mg base (L2.CX l.prog w) k fa fd ["script"] (liftSp (K w.params) spLaw)) :
    PySem.W.WalkO q loose XP YP l.row.toRowW d [] (fun f vs => PySem.call f vs) :=
  L2.walk_of (n := 63) (x := "script") (CX := fun w => L2.CX l.prog w) (sp := fun w => liftSp (K w.params) spLaw) hn (by decide) hdf hr hY F (fun _ _ a ns hl o h => law_starts o h) fun _ _ _ _ _ z => by
    obtain ⟨_, _, _, _, _, _, _, _, _, _, _, _, z⟩ := z
    exact z
/-- an error of the class at S is what «except S» names -/
theorem exm_self {K : PySem.W.Frag} {S : Addr} (h1 : PySem.W.subIn K (.ref S) (.type "BaseException") = some true) (h2 : PySem.W.isClsIn K S = true) (h3 : PySem.W.typeIn K (.ref S) = some (.type "type")) (h4 : PySem.W.subIn K (.ref S) (.ref S) = some true) : PySem.W.exmOne K (.ref S) (.ref S) = some true := by
  have e1 : (PySem.W.subIn K (.ref S) (.type "BaseException") == some true) = true := by rw [h1]; rfl
  have e2 : ((PySem.W.clsIn K S).isSome && PySem.W.typeIn K (.ref S) == some (.type "type")) = true := by
    have h2' : (PySem.W.clsIn K S).isSome = true := h2
    rw [h2', h3]; rfl
  unfold PySem.W.exmOne
  rw [if_pos e1]
  unfold PySem.W.kitCls
  exact (if_pos e2).trans h4
theorem kit_ty_of {K : PySem.W.Frag} {C : Addr} (h : PySem.W.subIn K (.ref C) (.type "ValueError") = some true) : PySem.W.kitOne K (.ref C) (.type "ValueError") = some true := by
  unfold PySem.W.kitOne
  have q : (Value.ref C == Value.type "ValueError") = false := by rfl
  rw [q, if_neg Bool.false_ne_true]
  unfold PySem.W.kitCls
  exact (if_pos (by decide +kernel)).trans h
theorem kit_cls_of {K : PySem.W.Frag} {C D : Addr} (h2 : PySem.W.isClsIn K D = true) (h3 : PySem.W.typeIn K (.ref D) = some (.type "type")) (h : PySem.W.subIn K (.ref C) (.ref D) = some true) : PySem.W.kitOne K (.ref C) (.ref D) = some true := by
  unfold PySem.W.kitOne
  by_cases q : ((Value.ref C == Value.ref D) = true)
  · rw [if_pos q]
  · rw [if_neg q]
    unfold PySem.W.kitCls
    have e2 : ((PySem.W.clsIn K D).isSome && PySem.W.typeIn K (.ref D) == some (.type "type")) = true := by
      have h2' : (PySem.W.clsIn K D).isSome = true := h2
      rw [h2', h3]; rfl
    exact (if_pos e2).trans h
end Dy
namespace K12
open PySem PySem.Spec PyProof.Rows L2 Dy
local macro_rules | `(tactic| walk_at "e") => `(tactic| first | exact rfl | assumption | (apply sq_ref; assumption) | (apply ls_ref; assumption) | (apply lm_ref; assumption) | (apply tg_ref; assumption))
local macro_rules | `(tactic| walk_at "side") => `(tactic| first | omega | assumption | ((refine And.intro ?_ ?_); omega; assumption) | ((refine And.intro ?_ ?_) <;> decide) | ((refine Or.inl (Or.inr (And.intro ?_ ?_))) <;> omega) | ((refine Or.inl (Or.inl (And.intro ?_ ?_))) <;> omega))
local macro_rules | `(tactic| walk_at "go1") => `(tactic| first
  | with_reducible refine s_seq ?_
  | with_reducible refine s_next ?_
  | with_reducible refine s_asg ?_
  | with_reducible refine s_asgG ?_
  | with_reducible refine s_drop ?_
  | with_reducible refine s_ret ?_
  | with_reducible refine s_retN ?_
  | with_reducible refine s_ifs ?_
  | with_reducible refine s_par ?_
  | with_reducible apply s_two
  | with_reducible refine s_setL ?_
  | with_reducible refine g_name ?_
  | with_reducible refine g_nil ?_
  | with_reducible refine g_cons ?_
  | ((with_reducible refine g_tup ?_ ?_); rfl)
  | ((with_reducible apply s_aug); (exact rfl))
  | with_reducible refine c_op ?_
  | ((with_reducible apply ifYes); (first | assumption | exact rfl | (simp only [tagD]; decide +kernel)))
  | ((with_reducible apply ifNo); (first | assumption | exact rfl | (simp only [tagD]; decide +kernel)))
  | with_reducible refine c_un ?_
  | ((with_reducible apply c_var); (exact rfl))
  | with_reducible refine c_c ?_
  | with_reducible refine c_nil ?_
  | with_reducible refine c_cons ?_
  | ((with_reducible apply sz_and); (exact Nat.le_of_ble_eq_true rfl))
  | with_reducible refine c_tup ?_
  | with_reducible refine c_lst ?_
  | with_reducible refine c_new ?_
  | with_reducible refine c_cb ?_
  | with_reducible refine c_call ?_
  | with_reducible refine c_if ?_
  | with_reducible refine c_andV ?_
  | with_reducible refine c_orV ?_
  | with_reducible refine c_notV ?_
  | with_reducible refine c_test ?_
  | with_reducible refine c_and ?_
  | with_reducible refine c_or ?_
  | with_reducible refine c_not ?_
  | with_reducible refine c_yes ?_
  | with_reducible refine c_bl ?_
  | with_reducible refine c_chain ?_
  | with_reducible refine c_sl ?_
  | with_reducible refine c_nopart ?_
  | with_reducible refine c_part ?_
  | with_reducible refine c_intE ?_
  | with_reducible refine c_lc ?_
  | with_reducible refine c_lcN ?_
  | with_reducible refine s_for ?_
  | with_reducible refine s_setF ?_
  | with_reducible refine s_raiseF ?_
  | with_reducible refine s_tryAs ?_
  | with_reducible refine c_dnil ?_
  | with_reducible refine c_make ?_
  | with_reducible refine c_fld ?_
  | with_reducible refine s_only ?_
  | with_reducible refine c_xe ?_
  | ((with_reducible apply o_xe); (exact rfl))
  | ((with_reducible apply o_isE); (first | exact rfl | exact if_pos rfl))
  | ((with_reducible apply o_fld); (assumption); (exact rfl); (exact rfl))
  | with_reducible refine s_bm ?_
  | with_reducible refine s_bm0 ?_
  | with_reducible refine s_rng1 ?_
  | with_reducible apply o_lstE
  | ((with_reducible apply o_sqAnd); (walk_at "e"))
  | with_reducible refine s_sq ?_
  | with_reducible apply o_I0
  | with_reducible apply o_addI
  | ((with_reducible apply o_lsAnd); (walk_at "e"))
  | ((with_reducible apply o_I); (walk_at "side"))
  | with_reducible apply o_isN
  | with_reducible apply o_notN
  | with_reducible apply o_eqI
  | with_reducible apply o_eqS
  | with_reducible apply o_eqB
  | with_reducible apply o_neg
  | with_reducible apply o_int
  | with_reducible apply o_intB
  | with_reducible apply o_abs
  | with_reducible apply o_slT
  | ((with_reducible apply o_len); (walk_at "e"))
  | ((with_reducible apply o_list); (walk_at "e"))
  | ((with_reducible apply o_listN); (walk_at "e"))
  | ((with_reducible apply o_tuple); (walk_at "e"))
  | ((with_reducible apply o_isi); (walk_at "e"))
  | ((with_reducible apply o_isiP); (first | assumption | exact Dat.plain (by assumption)))
  | ((with_reducible apply o_slL); (walk_at "e"))
  | ((with_reducible apply o_ix); (walk_at "e"); (first | (apply (at0 _).trans; first | exact rfl | assumption) | (apply (at1 _).trans; exact rfl) | (apply (at2 _).trans; exact rfl) | (apply (at3 _).trans; exact rfl) | (apply (at4 _).trans; exact rfl) | exact rfl))
  | ((with_reducible apply o_put); (assumption); (first | exact rfl | (apply ixN_0; simp))))
local macro_rules | `(tactic| walk_at "go") => `(tactic| repeat walk_at "go1")
local macro_rules | `(tactic| walk_at "len") => `(tactic| (intro ds S Q E h; first | (obtain ⟨_, rfl, _⟩ := h; rfl) | (obtain ⟨_, _, rfl, _⟩ := h; rfl) | (obtain ⟨_, _, _, rfl, _⟩ := h; rfl) | (obtain ⟨_, _, _, _, rfl, _⟩ := h; rfl) | (obtain ⟨_, _, _, _, _, rfl, _⟩ := h; rfl) | (obtain ⟨_, _, _, _, _, _, rfl, _⟩ := h; rfl) | (obtain ⟨rfl, _⟩ := h; rfl)))

def top (i : Nat) : Stmt := PySem.Challenge.pw_threecopies_k12_books_judged.main.body.getD i (.Pass ⟨0, 0, 0, 0⟩)
def mth (i j : Nat) : Stmt := match top i with
  | .ClassDef _ _ _ b _ _ _ _ _ _ _ => b.getD j (.Pass ⟨0, 0, 0, 0⟩)
  | s => s
abbrev s_is_integer : Stmt := top 5
abbrev N_is_integer : List Str := ["thing"]
theorem sc_is_integer : FnScope N_is_integer ["thing"] (defScope s_is_integer) := ⟨rfl, rfl, rfl, by decide +kernel, rfl, by decide +kernel, by decide +kernel⟩
abbrev s_is_between : Stmt := top 6
abbrev N_is_between : List Str := ["thing", "least", "most"]
theorem sc_is_between : FnScope N_is_between ["thing", "least", "most"] (defScope s_is_between) := ⟨rfl, rfl, rfl, by decide +kernel, rfl, by decide +kernel, by decide +kernel⟩
abbrev s_is_tuple_of : Stmt := top 7
abbrev N_is_tuple_of : List Str := ["thing", "length"]
theorem sc_is_tuple_of : FnScope N_is_tuple_of ["thing", "length"] (defScope s_is_tuple_of) := ⟨rfl, rfl, rfl, by decide +kernel, rfl, by decide +kernel, by decide +kernel⟩
abbrev s_are_stamps : Stmt := top 11
abbrev N_are_stamps : List Str := ["thing", "length", "many", "stamp"]
theorem sc_are_stamps : FnScope N_are_stamps ["thing", "length", "many"] (defScope s_are_stamps) := ⟨rfl, rfl, rfl, by decide +kernel, rfl, by decide +kernel, by decide +kernel⟩
abbrev s_are_rows : Stmt := top 12
abbrev N_are_rows : List Str := ["thing", "length", "many", "row"]
theorem sc_are_rows : FnScope N_are_rows ["thing", "length", "many"] (defScope s_are_rows) := ⟨rfl, rfl, rfl, by decide +kernel, rfl, by decide +kernel, by decide +kernel⟩
abbrev s_are_words : Stmt := top 13
abbrev N_are_words : List Str := ["thing", "length", "word"]
theorem sc_are_words : FnScope N_are_words ["thing", "length"] (defScope s_are_words) := ⟨rfl, rfl, rfl, by decide +kernel, rfl, by decide +kernel, by decide +kernel⟩
abbrev s_are_looks : Stmt := top 14
abbrev N_are_looks : List Str := ["thing", "many", "row"]
theorem sc_are_looks : FnScope N_are_looks ["thing", "many"] (defScope s_are_looks) := ⟨rfl, rfl, rfl, by decide +kernel, rfl, by decide +kernel, by decide +kernel⟩
abbrev s_wrong_part : Stmt := top 15
abbrev N_wrong_part : List Str := ["first", "changes", "forks", "joins", "looks", "many"]
theorem sc_wrong_part : FnScope N_wrong_part ["first", "changes", "forks", "joins", "looks"] (defScope s_wrong_part) := ⟨rfl, rfl, rfl, by decide +kernel, rfl, by decide +kernel, by decide +kernel⟩
abbrev s__law_pot : Stmt := top 17
abbrev N__law_pot : List Str := ["script", "cells", "greats", "smalls", "item"]
theorem sc__law_pot : FnScope N__law_pot ["script"] (defScope s__law_pot) := ⟨rfl, rfl, rfl, by decide +kernel, rfl, by decide +kernel, by decide +kernel⟩
abbrev s__law_draw : Stmt := top 18
abbrev N__law_draw : List Str := ["pot", "many", "turn", "number", "seed"]
theorem sc__law_draw : FnScope N__law_draw ["pot", "many"] (defScope s__law_draw) := ⟨rfl, rfl, rfl, by decide +kernel, rfl, by decide +kernel, by decide +kernel⟩
abbrev s__law_any : Stmt := top 19
abbrev N__law_any : List Str := ["pot", "items"]
theorem sc__law_any : FnScope N__law_any ["pot", "items"] (defScope s__law_any) := ⟨rfl, rfl, rfl, by decide +kernel, rfl, by decide +kernel, by decide +kernel⟩
abbrev s__law_deep : Stmt := top 20
abbrev N__law_deep : List Str := ["thing", "turn"]
theorem sc__law_deep : FnScope N__law_deep [] (defScope s__law_deep) := ⟨rfl, rfl, rfl, by decide +kernel, rfl, by decide +kernel, by decide +kernel⟩
abbrev s__law_rows : Stmt := top 21
abbrev N__law_rows : List Str := ["hand", "many", "looks", "changes", "forks", "joins", "words", "table", "s", "t"]
theorem sc__law_rows : FnScope N__law_rows ["hand", "many", "looks"] (defScope s__law_rows) := ⟨rfl, rfl, rfl, by decide +kernel, rfl, by decide +kernel, by decide +kernel⟩
abbrev s__law_are : Stmt := top 22
abbrev N__law_are : List Str := ["thing", "many", "stock", "one"]
theorem sc__law_are : FnScope N__law_are ["thing", "many", "stock"] (defScope s__law_are) := ⟨rfl, rfl, rfl, by decide +kernel, rfl, by decide +kernel, by decide +kernel⟩
abbrev s__law_due : Stmt := top 23
abbrev N__law_due : List Str := ["rows", "first", "changes", "forks", "joins", "looks", "many", "row", "pair", "word"]
theorem sc__law_due : FnScope N__law_due ["rows"] (defScope s__law_due) := ⟨rfl, rfl, rfl, by decide +kernel, rfl, by decide +kernel, by decide +kernel⟩
abbrev s__law_told : Stmt := top 24
abbrev N__law_told : List Str := ["rows", "told", "made", "e"]
theorem sc__law_told : FnScope N__law_told ["rows"] (defScope s__law_told) := ⟨rfl, rfl, rfl, by decide +kernel, rfl, by decide +kernel, by decide +kernel⟩
abbrev s__law_bent : Stmt := top 25
abbrev N__law_bent : List Str := ["hand", "thing", "odd", "at", "kind"]
theorem sc__law_bent : FnScope N__law_bent ["hand", "thing", "odd"] (defScope s__law_bent) := ⟨rfl, rfl, rfl, by decide +kernel, rfl, by decide +kernel, by decide +kernel⟩
abbrev s__law_great : Stmt := top 26
abbrev N__law_great : List Str := ["many", "nothing"]
theorem sc__law_great : FnScope N__law_great ["many"] (defScope s__law_great) := ⟨rfl, rfl, rfl, by decide +kernel, rfl, by decide +kernel, by decide +kernel⟩
abbrev s_law : Stmt := top 27
abbrev N_law : List Str := ["script", "hand", "turn", "many", "rows", "odd", "again", "at", "bent"]
theorem sc_law : FnScope N_law ["script"] (defScope s_law) := ⟨rfl, rfl, rfl, by decide +kernel, rfl, by decide +kernel, by decide +kernel⟩
abbrev s_BadBook___init__ : Stmt := mth 2 0
abbrev N_BadBook___init__ : List Str := ["self", "part"]
theorem sc_BadBook___init__ : FnScope N_BadBook___init__ ["self", "part"] (defScope s_BadBook___init__) := ⟨rfl, rfl, rfl, by decide +kernel, rfl, by decide +kernel, by decide +kernel⟩
abbrev s_Book___init__ : Stmt := mth 10 0
abbrev N_Book___init__ : List Str := ["self", "first", "changes", "forks", "joins", "looks", "part"]
theorem sc_Book___init__ : FnScope N_Book___init__ ["self", "first", "changes", "forks", "joins", "looks"] (defScope s_Book___init__) := ⟨rfl, rfl, rfl, by decide +kernel, rfl, by decide +kernel, by decide +kernel⟩
abbrev s_Book___eq__ : Stmt := mth 10 1
abbrev N_Book___eq__ : List Str := ["self", "other"]
theorem sc_Book___eq__ : FnScope N_Book___eq__ ["self", "other"] (defScope s_Book___eq__) := ⟨rfl, rfl, rfl, by decide +kernel, rfl, by decide +kernel, by decide +kernel⟩
abbrev words : List Str := ["same", "newer", "elder", "apart"]
structure Txt (K : PySem.W.Frag) (mg : Str → Option Value) (cBook cBad cCopy : Addr) : Prop where
  b_ValueError : mg "ValueError" = none
  b_abs : mg "abs" = none
  b_all : mg "all" = none
  b_any : mg "any" = none
  b_bool : mg "bool" = none
  b_dict : mg "dict" = none
  b_enumerate : mg "enumerate" = none
  b_int : mg "int" = none
  b_isinstance : mg "isinstance" = none
  b_len : mg "len" = none
  b_list : mg "list" = none
  b_max : mg "max" = none
  b_min : mg "min" = none
  b_range : mg "range" = none
  b_set : mg "set" = none
  b_sorted : mg "sorted" = none
  b_str : mg "str" = none
  b_sum : mg "sum" = none
  b_tuple : mg "tuple" = none
  b_type : mg "type" = none
  d_is_integer : ∃ f fd, Fun K "is_integer" "is_integer" s_is_integer f fd ∧ mg "is_integer" = some (.ref f) ∧ PySem.W.keepIn K (.ref f) = true ∧ Binds K fd ["thing"] []
  d_is_between : ∃ f fd, Fun K "is_between" "is_between" s_is_between f fd ∧ mg "is_between" = some (.ref f) ∧ PySem.W.keepIn K (.ref f) = true ∧ Binds K fd ["thing", "least", "most"] []
  d_is_tuple_of : ∃ f fd, Fun K "is_tuple_of" "is_tuple_of" s_is_tuple_of f fd ∧ mg "is_tuple_of" = some (.ref f) ∧ PySem.W.keepIn K (.ref f) = true ∧ Binds K fd ["thing", "length"] []
  d_are_stamps : ∃ f fd, Fun K "are_stamps" "are_stamps" s_are_stamps f fd ∧ mg "are_stamps" = some (.ref f) ∧ PySem.W.keepIn K (.ref f) = true ∧ Binds K fd ["thing", "length", "many"] []
  d_are_rows : ∃ f fd, Fun K "are_rows" "are_rows" s_are_rows f fd ∧ mg "are_rows" = some (.ref f) ∧ PySem.W.keepIn K (.ref f) = true ∧ Binds K fd ["thing", "length", "many"] []
  d_are_words : ∃ f fd, Fun K "are_words" "are_words" s_are_words f fd ∧ mg "are_words" = some (.ref f) ∧ PySem.W.keepIn K (.ref f) = true ∧ Binds K fd ["thing", "length"] []
  d_are_looks : ∃ f fd, Fun K "are_looks" "are_looks" s_are_looks f fd ∧ mg "are_looks" = some (.ref f) ∧ PySem.W.keepIn K (.ref f) = true ∧ Binds K fd ["thing", "many"] []
  d_wrong_part : ∃ f fd, Fun K "wrong_part" "wrong_part" s_wrong_part f fd ∧ mg "wrong_part" = some (.ref f) ∧ PySem.W.keepIn K (.ref f) = true ∧ Binds K fd ["first", "changes", "forks", "joins", "looks"] []
  d__law_pot : ∃ f fd, Fun K "_law_pot" "_law_pot" s__law_pot f fd ∧ mg "_law_pot" = some (.ref f) ∧ PySem.W.keepIn K (.ref f) = true ∧ Binds K fd ["script"] []
  d__law_draw : ∃ f fd, Fun K "_law_draw" "_law_draw" s__law_draw f fd ∧ mg "_law_draw" = some (.ref f) ∧ PySem.W.keepIn K (.ref f) = true ∧ Binds K fd ["pot", "many"] []
  d__law_any : ∃ f fd, Fun K "_law_any" "_law_any" s__law_any f fd ∧ mg "_law_any" = some (.ref f) ∧ PySem.W.keepIn K (.ref f) = true ∧ Binds K fd ["pot", "items"] []
  d__law_deep : ∃ f fd, Fun K "_law_deep" "_law_deep" s__law_deep f fd ∧ mg "_law_deep" = some (.ref f) ∧ PySem.W.keepIn K (.ref f) = true ∧ Binds K fd [] []
  d__law_rows : ∃ f fd, Fun K "_law_rows" "_law_rows" s__law_rows f fd ∧ mg "_law_rows" = some (.ref f) ∧ PySem.W.keepIn K (.ref f) = true ∧ Binds K fd ["hand", "many", "looks"] []
  d__law_are : ∃ f fd, Fun K "_law_are" "_law_are" s__law_are f fd ∧ mg "_law_are" = some (.ref f) ∧ PySem.W.keepIn K (.ref f) = true ∧ Binds K fd ["thing", "many", "stock"] []
  d__law_due : ∃ f fd, Fun K "_law_due" "_law_due" s__law_due f fd ∧ mg "_law_due" = some (.ref f) ∧ PySem.W.keepIn K (.ref f) = true ∧ Binds K fd ["rows"] []
  d__law_told : ∃ f fd, Fun K "_law_told" "_law_told" s__law_told f fd ∧ mg "_law_told" = some (.ref f) ∧ PySem.W.keepIn K (.ref f) = true ∧ Binds K fd ["rows"] []
  d__law_bent : ∃ f fd, Fun K "_law_bent" "_law_bent" s__law_bent f fd ∧ mg "_law_bent" = some (.ref f) ∧ PySem.W.keepIn K (.ref f) = true ∧ Binds K fd ["hand", "thing", "odd"] []
  d__law_great : ∃ f fd, Fun K "_law_great" "_law_great" s__law_great f fd ∧ mg "_law_great" = some (.ref f) ∧ PySem.W.keepIn K (.ref f) = true ∧ Binds K fd ["many"] []
  d_law : ∃ f fd, Fun K "law" "law" s_law f fd ∧ mg "law" = some (.ref f) ∧ PySem.W.keepIn K (.ref f) = true ∧ Binds K fd ["script"] []
  d_Book___init__ : ∃ f fd, Fun K "__init__" "Book.__init__" s_Book___init__ f fd ∧ L2.Mk K cBook f ∧ mg "Book" = some (.ref cBook) ∧ Binds K fd ["self", "first", "changes", "forks", "joins", "looks"] []
  d_BadBook___init__ : ∃ f fd, Fun K "__init__" "BadBook.__init__" s_BadBook___init__ f fd ∧ ErrF K cBad "part" f ∧ Binds K fd ["self", "part"] []
  k_WORDS : Kst K mg "WORDS" (.tup (words.map .str))
  k_MOST_STAMPS : Kst K mg "MOST_STAMPS" (.int 400)
  f_first : ∀ C, C = cBook → Cls K C ∧ NoAttr K C "first"
  f_changes : ∀ C, C = cBook → Cls K C ∧ NoAttr K C "changes"
  f_forks : ∀ C, C = cBook → Cls K C ∧ NoAttr K C "forks"
  f_joins : ∀ C, C = cBook → Cls K C ∧ NoAttr K C "joins"
  f_looks : ∀ C, C = cBook → Cls K C ∧ NoAttr K C "looks"
  c_BadBook : mg "BadBook" = some (.ref cBad)
  c_CopyError : mg "CopyError" = some (.ref cCopy)
  em_BadBook : PySem.W.exmOne K (.ref cBad) (.ref cBad) = some true
  xi : ExcI K cBad
  kit : KitOf K cBad (ktOne cCopy)
  xf : XfC K cBad
  nof : PySem.W.findIn K (.ref cBad) "part" = some none
section
variable {cBook cBad cCopy : Addr} {P : Program} {w : World} {K : PySem.W.Frag} {mg : Str → Option Value} {base : Heap}
/-! the law's draws -/
structure PotAt (S : Store) (n g : Nat) : Prop where
  ne : n ≠ g
  ex : ∃ (gs sm : List Int) (turn sum : Int), S[n]? = some (.lst [.ref g, .lst (sm.map .int), .int turn, .int sum]) ∧ S[g]? = some (.lst (gs.map .int)) ∧ sm ≠ []
def Kept (N : List Nat) (S S' : Store) : Prop := S'.length = S.length ∧ ∀ (m : Nat), m ∉ N → S'[m]? = S[m]?
def spDraw : DSp := fun ds S Q E => ∃ n g many, ds = [.ref n, .int many] ∧ PotAt S n g ∧ 0 < many ∧ many.natAbs.log2 < 9000 ∧ ∀ r S', 0 ≤ r → r < many → PotAt S' n g → Kept [n, g] S S' → Q (.int r) S'
theorem ok__law_draw (T : Txt K mg cBook cBad cCopy) : Cal P w K mg base "_law_draw" 1 ["pot", "many"] spDraw := by
  obtain ⟨f, fd, A, hm, hk, hb⟩ := T.d__law_draw
  refine ⟨f, fd, dfn A sc__law_draw (by intro ds S Q E h; obtain ⟨_, _, _, rfl, _⟩ := h; rfl) (fun cdv A outer s H E hr => ⟨_, (ds_cons (ds_set 2 (fun _ => sc__law_draw.nd) (de_at (de_var 0) de_int))
    (ds_cons (ds_setL (de_add (de_var 2) de_int) (de_var 0) de_int)
    (ds_cons (ds_if (dt_cmp (fun _ => op_gt) lk_gt (dc_len (fun _ => T.b_len) (da_cons (de_at (de_var 0) de_int) da_nil)) de_int (nomark _))
    (ds_cons (ds_set 3 (fun _ => sc__law_draw.nd) (de_at (de_at (de_var 0) de_int) de_int))
    (ds_cons (ds_setL (de_fdiv (de_var 3) (de_var 1)) (de_at (de_var 0) de_int) de_int)
    (ds_cons (ds_if (dt_cmp (fun _ => op_lt) lk_lt (de_var 3) (de_var 1) (nomark _))
    (ds_one (ds_expr (de_popAt (de_at (de_var 0) de_int) (da_cons de_int da_nil))))
    ds_nil)
    (ds_one (ds_ret (de_mod (dc_int (fun _ => T.b_int) (da_cons (de_var 3) da_nil)) (de_var 1)))))))
    ds_nil)
    (ds_cons (ds_set 4 (fun _ => sc__law_draw.nd) (de_add (de_add (de_mul (de_at (de_at (de_var 0) de_int) (de_mod (dc_int (fun _ => T.b_int) (da_cons (de_var 2) da_nil)) (dc_len (fun _ => T.b_len) (da_cons (de_at (de_var 0) de_int) da_nil)))) de_int) (de_mul de_int (de_var 2))) (de_mul (de_at (de_var 0) de_int) de_int)))
    (ds_cons (ds_set 3 (fun _ => sc__law_draw.nd) (de_mod (dc_int (fun _ => T.b_int) (da_cons (de_add (de_mul (de_var 4) de_int) de_int) da_nil)) de_int))
    (ds_cons (ds_set 3 (fun _ => sc__law_draw.nd) (de_mod (dc_int (fun _ => T.b_int) (da_cons (de_mul (de_var 3) (de_add (de_fdiv (de_var 3) de_int) de_int)) da_nil)) de_int))
    (ds_cons (ds_set 3 (fun _ => sc__law_draw.nd) (de_mod (dc_int (fun _ => T.b_int) (da_cons (de_add (de_mul (de_var 3) (de_add (de_fdiv (de_var 3) de_int) de_int)) (de_var 2)) da_nil)) de_int))
    (ds_one (ds_ret (de_mod (dc_int (fun _ => T.b_int) (da_cons (de_fdiv (de_var 3) de_int) da_nil)) (de_var 1))))))))))), fun ds S Q E h => ?_⟩), hm, hk, hb⟩
  obtain ⟨n, g, many, rfl, ⟨ne, gs, sm, turn, sum, h1, h2, h3⟩, hm, hl, k⟩ := h
  walk_at "go"
  intro S1 l1 e1 m1
  have e1 : S1[n]? = some (.lst [.ref g, .lst (sm.map .int), .int (turn+1), .int sum]) := e1
  have h2' := (m1 g (Ne.symm ne)).trans h2
  walk_at "go"
  refine ifD (fun hc => ?_) (fun hc => ?_)
  · cases gs with
    | nil => simp at hc
    | cons g0 gr =>
      walk_at "go"
      intro S2 l2 e2 m2
      have e2' := (m2 n ne).trans e1
      have kp : ∀ m : Nat, m ∉ [n, g] → S2[m]? = S[m]? := fun m hm => (m2 m fun e => hm (by simp [e])).trans (m1 m fun e => hm (by simp [e]))
      walk_at "go"
      have q1 := Int.emod_nonneg g0 (by omega : many ≠ 0)
      have q2 := Int.emod_lt_of_pos g0 hm
      refine ifD (fun hc2 => ?_) (fun hc2 => ?_)
      · walk_at "go"
        refine o_popAt (j := 0) e2 (by decide) (by decide) (by simp [seqIndex?]) rfl fun S3 l3 e3 m3 => ?_
        walk_at "go"
        exact k _ _ q1 q2 ⟨ne, gr, sm, turn + 1, sum, (m3 n ne).trans e2', e3, h3⟩ ⟨by omega, fun m hm => (m3 m fun e => hm (by simp [e])).trans (kp m hm)⟩
      · walk_at "go"
        exact k _ _ q1 q2 ⟨ne, (g0 / many) :: gr, sm, turn + 1, sum, e2', e2, h3⟩ ⟨by omega, kp⟩
  · walk_at "go"
    obtain ⟨x, hx⟩ := at_mod (f := D.int) (t := turn) h3
    have hp : (0 : Int) < (sm.map D.int).length := by
      have := List.length_pos_iff.mpr h3
      simp; omega
    walk_at "go"
    refine o_ix rfl hx ?_
    walk_at "go"
    have q1 : ∀ x : Int, 0 ≤ x % many := fun x => Int.emod_nonneg x (by omega : many ≠ 0)
    have q2 : ∀ x : Int, x % many < many := fun x => Int.emod_lt_of_pos x hm
    exact k _ _ (q1 _) (q2 _) ⟨ne, gs, sm, turn + 1, sum, e1, h2', h3⟩ ⟨l1, fun m hm => m1 m fun e => hm (by simp [e])⟩
def absD : D → D
  | .int i => .int (if i < 0 then -i else i)
  | d => d
def bigD : D → Bool
  | .int i => decide ((10 : Int) ^ (18 : Int).toNat ≤ if i < 0 then -i else i)
  | _ => false
def modD : D → D
  | .int i => .int (i % 1000000007)
  | d => d
/-- the state of the draws, made of the script -/
def spPot : DSp := fun ds S Q E => ∃ ns : List Int, ds = [.frz (ns.map .int)] ∧ ∀ S' n g, PotAt S' n g → S'.length = S.length + 2 → n = S.length + 1 → (∀ m : Nat, m < S.length → S'[m]? = S[m]?) → Q (.ref n) S'
theorem ok__law_pot (T : Txt K mg cBook cBad cCopy) : Cal P w K mg base "_law_pot" 1 ["script"] spPot := by
  obtain ⟨f, fd, A, hm, hk, hb⟩ := T.d__law_pot
  refine ⟨f, fd, dfn A sc__law_pot (by intro ds S Q E h; obtain ⟨_, rfl, _⟩ := h; rfl) (fun cdv A outer s H E hr => ⟨_, (ds_cons (ds_setLc 1 (own := [("item", 4)]) (tgl_1 4) (fun _ => rfl) (fun _ => sc__law_pot.nd) (di_sq (de_slL (de_var 0) do_none (do_some de_int))) (fun _ => blkOk_by (N := N__law_pot) (sc := defScope s__law_pot) (by decide +kernel)) dts_nil (dc_int (fun _ => T.b_int) (da_cons (de_var 4) da_nil)) (fun _ => pg_name (i := 4) sc__law_pot.nd rfl (Or.inl rfl)) (fun _ => sw_true rfl rfl rfl (by decide +kernel)))
    (ds_cons (ds_setLcN 2 (own := [("item", 4)]) (tgl_1 4) (fun _ => rfl) (fun _ => sc__law_pot.nd) (di_sq (de_var 1)) (fun _ => blkOk_by (N := N__law_pot) (sc := defScope s__law_pot) (by decide +kernel)) (dts_one (dt_cmp (fun _ => op_ge) lk_ge (dc_abs (fun _ => T.b_abs) (da_cons (de_var 4) da_nil)) (de_pow de_int de_int) (nomark _))) (dc_abs (fun _ => T.b_abs) (da_cons (de_var 4) da_nil)) (fun _ => pg_name (i := 4) sc__law_pot.nd rfl (Or.inl rfl)) (fun _ => sw_true rfl rfl rfl (by decide +kernel)))
    (ds_cons (ds_set 3 (fun _ => sc__law_pot.nd) (de_cat (de_lc 4 (fun _ => rfl) (fun _ => sc__law_pot.nd) (di_sq (de_var 1)) (fun _ => blkOk_by (N := N__law_pot) (sc := defScope s__law_pot) (by decide +kernel)) (dts_one (dt_cmp (fun _ => op_lt) lk_lt (dc_abs (fun _ => T.b_abs) (da_cons (de_var 4) da_nil)) (de_pow de_int de_int) (nomark _))) (de_mod (dc_int (fun _ => T.b_int) (da_cons (de_var 4) da_nil)) de_int) (fun _ => pg_name (i := 4) sc__law_pot.nd rfl (Or.inl rfl))) (de_lst (da_cons (de_add (dc_len (fun _ => T.b_len) (da_cons (de_var 1) da_nil)) de_int) da_nil))))
    (ds_one (ds_ret (de_new (da_cons (de_var 2) (da_cons (de_var 3) (da_cons de_int (da_cons (de_mod (dc_int (fun _ => T.b_int) (da_cons (dc_sum (fun _ => rfl) (fun _ => T.b_sum) (da_cons (de_var 3) da_nil)) da_nil)) de_int) da_nil)))))))))), fun ds S Q E h => ?_⟩), hm, hk, hb⟩
  obtain ⟨ns, rfl, k⟩ := h
  walk_at "go"
  have cut : Dy.cutD (ns.map D.int) none (some 63) = (ns.take 63).map D.int := by rw [cut_take (by decide), ← List.map_take]; rfl
  rw [cut]
  generalize hms : ns.take 63 = ms
  have h63 : (ms.map D.int).length ≤ 63 := by rw [← hms]; simp; omega
  have asI : ∀ x ∈ ms.map D.int, ∃ i, x = D.int i := fun x m => by
    obtain ⟨i, _, rfl⟩ := List.mem_map.mp m
    exact ⟨i, rfl⟩
  refine o_lcM id rfl (small (by omega)) (fun x m P hP => ?_) ?_
  · obtain ⟨i, rfl⟩ := asI x m
    walk_at "go"
    exact hP
  rw [List.map_id]
  walk_at "go"
  refine o_lcG absD bigD rfl (small (by omega)) (fun x m P hP => ?_) (fun x m _ P hP => ?_) ?_
  · obtain ⟨i, rfl⟩ := asI x m
    walk_at "go"
    exact hP
  · obtain ⟨i, rfl⟩ := asI x m
    walk_at "go"
    exact hP
  walk_at "go"
  refine o_lcG modD (fun d => !bigD d) rfl (small (by omega)) (fun x m P hP => ?_) (fun x m _ P hP => ?_) ?_
  · obtain ⟨i, rfl⟩ := asI x m
    walk_at "go"
    have e : decide ((if i < 0 then -i else i) < (10 : Int) ^ (18 : Int).toNat) = !bigD (D.int i) := by simp only [bigD]; rw [← decide_not]; congr 1; rw [Int.not_le]
    rw [e]
    exact hP
  · obtain ⟨i, rfl⟩ := asI x m
    walk_at "go"
    exact hP
  walk_at "go"
  refine o_cat rfl rfl (small ?_) ?_
  · have := List.length_filter_le (fun d => !bigD d) (ms.map D.int)
    simp only [List.length_map, List.length_cons, List.length_nil] at this h63 ⊢
    omega
  obtain ⟨sm, hsm⟩ : ∃ sm : List Int, List.map modD ((ms.map D.int).filter fun d => !bigD d) ++ [D.int ((ms.map D.int).length + 1)] = sm.map .int := all_int fun x m => by
    rcases List.mem_append.mp m with m | m
    · obtain ⟨y, my, rfl⟩ := List.mem_map.mp m
      obtain ⟨i, rfl⟩ := asI y ((List.mem_filter.mp my).1)
      exact ⟨_, rfl⟩
    · exact ⟨_, List.mem_singleton.mp m⟩
  obtain ⟨gs, hgs⟩ : ∃ gs : List Int, List.map absD ((ms.map D.int).filter bigD) = gs.map .int := all_int fun x m => by
    obtain ⟨y, my, rfl⟩ := List.mem_map.mp m
    obtain ⟨i, rfl⟩ := asI y ((List.mem_filter.mp my).1)
    exact ⟨_, rfl⟩
  have hne : sm ≠ [] := fun e => by
    rw [e] at hsm
    simp at hsm
  rw [hsm, hgs]
  walk_at "go"
  refine o_sum ?_
  walk_at "go"
  have g1 : (S ++ [SO.lst (gs.map D.int)]).length = S.length + 1 := by simp
  rw [g1]
  refine k _ _ S.length ⟨by omega, gs, sm, 0, sm.sum % 999983, ?_, ?_, hne⟩ (by simp) rfl fun m hm => ?_
  · rw [← g1, List.getElem?_append_right (by omega)]; simp
  · rw [List.getElem?_append_left (by rw [g1]; omega), List.getElem?_append_right (by omega)]; simp
  · rw [List.getElem?_append_left (by rw [g1]; omega), List.getElem?_append_left hm]
/-! one of several things -/
def spAny : DSp := fun ds S Q E => ∃ n g d xs, ds = [.ref n, d] ∧ PotAt S n g ∧ (∀ S', Kept [n, g] S S' → sqOf S' d = some xs) ∧ xs ≠ [] ∧ xs.length ≤ sizeLine ∧ ∀ x S', x ∈ xs → PotAt S' n g → Kept [n, g] S S' → Q x S'
theorem Kept.refl {N : List Nat} {S : Store} : Kept N S S := ⟨rfl, fun _ _ => rfl⟩
theorem Kept.trans {N : List Nat} {S S1 S2 : Store} (h : Kept N S S1) (k : Kept N S1 S2) : Kept N S S2 := ⟨k.1.trans h.1, fun m hm => (k.2 m hm).trans (h.2 m hm)⟩
theorem log_len {n : Nat} (h : n ≤ sizeLine) : ((n : Int)).natAbs.log2 < 9000 := by
  have e : ((n : Int)).natAbs = n := rfl
  rw [e]
  have : n < 2 ^ 64 := Nat.lt_of_le_of_lt h (by decide)
  exact Nat.lt_trans (PySem.Flt.log2_lt_of (by decide) this) (by decide)
theorem at_in {α : Type} {xs : List α} {r : Int} (h0 : 0 ≤ r) (h : r < xs.length) : ∃ x, atI xs r = some x ∧ x ∈ xs := by
  obtain ⟨k, rfl⟩ := Int.eq_ofNat_of_zero_le h0
  have hk : k < xs.length := by omega
  exact ⟨xs[k], by rw [atN, List.getElem?_eq_getElem hk], List.getElem_mem hk⟩
theorem ok__law_any (T : Txt K mg cBook cBad cCopy) (c__law_draw : Cal P w K mg base "_law_draw" 1 ["pot", "many"] spDraw) : Cal P w K mg base "_law_any" 2 ["pot", "items"] spAny := by
  obtain ⟨f, fd, A, hm, hk, hb⟩ := T.d__law_any
  refine ⟨f, fd, dfn A sc__law_any (by intro ds S Q E h; obtain ⟨_, _, _, _, rfl, _⟩ := h; rfl) (fun cdv A outer s H E hr => ⟨_, (ds_one (ds_ret (de_at (de_var 1) (de_callC (fun _ => c__law_draw) (fun _ => hr) (by omega) (fun _ => bodyTk) (da_cons (de_var 0) (da_cons (dc_len (fun _ => T.b_len) (da_cons (de_var 1) da_nil)) da_nil)))))), fun ds S Q E h => ?_⟩), hm, hk, hb⟩
  obtain ⟨n, g, d, xs, rfl, hp, hd, hn, hz, k⟩ := h
  walk_at "go"
  refine o_len (hd S .refl) ?_
  walk_at "go"
  have : 0 < xs.length := List.length_pos_iff.mpr hn
  refine ⟨n, g, _, rfl, hp, by omega, log_len hz, fun r S' h0 h1 hp' kp => ?_⟩
  obtain ⟨x, hx, mx⟩ := at_in h0 h1
  exact o_ix (hd S' kp) hx (k x S' mx hp' kp)
end
open PySem PySem.Spec PyProof.Rows L2 Dy

section
variable {cBook cBad cCopy : Addr} {P : Program} {w : World} {K : PySem.W.Frag} {mg : Str → Option Value} {base : Heap}
def isI : D → Bool
  | .int _ => true
  | _ => false
def btw (a b : Int) : D → Bool
  | .int i => decide (a ≤ i) && decide (i ≤ b)
  | _ => false
def tupN (n : Int) : D → Bool
  | .tup xs => decide ((xs.length : Int) = n)
  | _ => false
def allT (f : D → Bool) : D → Bool
  | .tup xs => xs.all f
  | _ => false
def stampsOk (n m : Int) (d : D) : Bool := tupN n d && allT (btw 0 (m - 1)) d
def rowsOk (n m : Int) (d : D) : Bool := tupN m d && allT (stampsOk n m) d
def wordsOk (n : Int) (d : D) : Bool := tupN n d && allT (inS words) d
def looksOk (m : Int) (d : D) : Bool := tupN m d && allT (wordsOk m) d
def spIsInt : DSp := fun ds S Q E => ∃ d, ds = [d] ∧ plainD d = true ∧ Q (.bl (isI d)) S
def spBtw : DSp := fun ds S Q E => ∃ d a b, ds = [d, .int a, .int b] ∧ plainD d = true ∧ Q (.bl (btw a b d)) S
def spTupOf : DSp := fun ds S Q E => ∃ d n, ds = [d, .int n] ∧ plainD d = true ∧ Q (.bl (tupN n d)) S
def spStamps : DSp := fun ds S Q E => ∃ d n m, ds = [d, .int n, .int m] ∧ Dat d ∧ Q (.bl (stampsOk n m d)) S
def spRows : DSp := fun ds S Q E => ∃ d n m, ds = [d, .int n, .int m] ∧ Dat d ∧ Q (.bl (rowsOk n m d)) S
def spWords : DSp := fun ds S Q E => ∃ d n, ds = [d, .int n] ∧ Dat d ∧ Q (.bl (wordsOk n d)) S
def spLooks : DSp := fun ds S Q E => ∃ d n, ds = [d, .int n] ∧ Dat d ∧ Q (.bl (looksOk n d)) S
theorem ok_is_integer (T : Txt K mg cBook cBad cCopy) : Cal P w K mg base "is_integer" 1 ["thing"] spIsInt := by
  obtain ⟨f, fd, A, hm, hk, hb⟩ := T.d_is_integer
  refine ⟨f, fd, dfn A sc_is_integer (by intro ds S Q E h; obtain ⟨_, rfl, _⟩ := h; rfl) (fun cdv A outer s H E hr => ⟨_, (ds_one (ds_ret (de_and (dc_isi (T := "int") (by decide) (by decide) (fun _ => T.b_isinstance) (da_cons (de_var 0) (da_cons (de_bltn (by intro _; rfl) (fun _ => T.b_int) bt_int (d := .ty "int") (v := .ty "int") rfl rfl) da_nil))) (de_one (de_not (dc_isi (T := "bool") (by decide) (by decide) (fun _ => T.b_isinstance) (da_cons (de_var 0) (da_cons (de_bltn (by intro _; rfl) (fun _ => T.b_bool) bt_bool (d := .ty "bool") (v := .ty "bool") rfl rfl) da_nil)))))))), fun ds S Q E h => ?_⟩), hm, hk, hb⟩
  obtain ⟨d, rfl, hd, h⟩ := h
  walk_at "go"
  cases d <;> first | exact h | (walk_at "go"; exact h) | cases hd
theorem ok_is_between (T : Txt K mg cBook cBad cCopy) (c_is_integer : Cal P w K mg base "is_integer" 1 ["thing"] spIsInt) : Cal P w K mg base "is_between" 2 ["thing", "least", "most"] spBtw := by
  obtain ⟨f, fd, A, hm, hk, hb⟩ := T.d_is_between
  refine ⟨f, fd, dfn A sc_is_between (by intro ds S Q E h; obtain ⟨_, _, _, rfl, _⟩ := h; rfl) (fun cdv A outer s H E hr => ⟨_, (ds_one (ds_ret (de_and (de_callC (fun _ => c_is_integer) (fun _ => hr) (by omega) (fun _ => bodyTk) (da_cons (de_var 0) da_nil)) (de_one (de_chain (fun _ => op_le) (fun _ => op_le) lk_le lk_le (de_var 1) (de_var 0) (de_var 2)))))), fun ds S Q E h => ?_⟩), hm, hk, hb⟩
  obtain ⟨d, a, b, rfl, hd, h⟩ := h
  walk_at "go"
  refine ⟨d, rfl, hd, ?_⟩
  walk_at "go"
  cases d <;> first
    | exact h
    | (rename_i i
       walk_at "go"
       refine ifD (fun c => ?_) (fun c => ?_)
       · walk_at "go"
         have h : Q (.bl (decide (a ≤ i) && decide (i ≤ b))) S := h
         rw [decide_eq_true c, Bool.true_and] at h
         exact h
       · have h : Q (.bl (decide (a ≤ i) && decide (i ≤ b))) S := h
         rw [decide_eq_false c, Bool.false_and] at h
         exact h)
theorem ok_is_tuple_of (T : Txt K mg cBook cBad cCopy) : Cal P w K mg base "is_tuple_of" 1 ["thing", "length"] spTupOf := by
  obtain ⟨f, fd, A, hm, hk, hb⟩ := T.d_is_tuple_of
  refine ⟨f, fd, dfn A sc_is_tuple_of (by intro ds S Q E h; obtain ⟨_, _, rfl, _⟩ := h; rfl) (fun cdv A outer s H E hr => ⟨_, (ds_one (ds_ret (de_and (dc_isi (T := "tuple") (by decide) (by decide) (fun _ => T.b_isinstance) (da_cons (de_var 0) (da_cons (de_bltn (by intro _; rfl) (fun _ => T.b_tuple) bt_tuple (d := .ty "tuple") (v := .ty "tuple") rfl rfl) da_nil))) (de_one (de_cmp (oq_eq fun _ => hr) lk_eq (dc_len (fun _ => T.b_len) (da_cons (de_var 0) da_nil)) (de_var 1) (nomark _)))))), fun ds S Q E h => ?_⟩), hm, hk, hb⟩
  obtain ⟨d, n, rfl, hd, h⟩ := h
  walk_at "go"
  cases d <;> first
    | exact h
    | (rename_i xs
       walk_at "go"
       rw [Bool.false_xor]
       exact h)
theorem ok_are_stamps (T : Txt K mg cBook cBad cCopy) (c_is_tuple_of : Cal P w K mg base "is_tuple_of" 1 ["thing", "length"] spTupOf) (c_is_between : Cal P w K mg base "is_between" 2 ["thing", "least", "most"] spBtw) : Cal P w K mg base "are_stamps" 3 ["thing", "length", "many"] spStamps := by
  obtain ⟨f, fd, A, hm, hk, hb⟩ := T.d_are_stamps
  refine ⟨f, fd, dfn A sc_are_stamps (by intro ds S Q E h; obtain ⟨_, _, _, rfl, _⟩ := h; rfl) (fun cdv A outer s H E hr => ⟨_, (ds_one (ds_ret (de_and (de_callC (fun _ => c_is_tuple_of) (fun _ => hr) (by omega) (fun _ => bodyTk) (da_cons (de_var 0) (da_cons (de_var 1) da_nil))) (de_one (dc_all (fun _ => rfl) (fun _ => T.b_all) (da_cons (de_lc 3 (fun _ => rfl) (fun _ => sc_are_stamps.nd) (di_sq (de_var 0)) (fun _ => blkOk_by (N := N_are_stamps) (sc := defScope s_are_stamps) (by decide +kernel)) dts_nil (de_callC (fun _ => c_is_between) (fun _ => hr) (by omega) (fun _ => takes0) (da_cons (de_var 3) (da_cons de_int (da_cons (de_sub (de_var 2) de_int) da_nil)))) (fun _ => pg_name (i := 3) sc_are_stamps.nd rfl (Or.inl rfl))) da_nil)))))), fun ds S Q E h => ?_⟩), hm, hk, hb⟩
  obtain ⟨d, n, m, rfl, hd, h⟩ := h
  walk_at "go"
  refine ⟨d, n, rfl, hd.plain, ?_⟩
  walk_at "go"
  unfold stampsOk at h
  refine ifB (fun e => ?_) (fun e => ?_)
  · rw [e, Bool.true_and] at h
    cases d with
    | tup xs =>
      cases hd with
      | tup hx hz =>
      walk_at "go"
      refine o_lcM _ rfl (small (by omega)) (fun x mx Pz hP => ?_) (o_all (g := btw 0 (m - 1)) h)
      walk_at "go"
      exact ⟨x, 0, m - 1, rfl, (hx x mx).plain, hP⟩
    | _ => cases e
  · rw [e, Bool.false_and] at h
    exact h
end
open PySem PySem.Spec PyProof.Rows L2 Dy

section
variable {cBook cBad cCopy : Addr} {P : Program} {w : World} {K : PySem.W.Frag} {mg : Str → Option Value} {base : Heap}
theorem ok_are_rows (T : Txt K mg cBook cBad cCopy) (c_is_tuple_of : Cal P w K mg base "is_tuple_of" 1 ["thing", "length"] spTupOf) (c_are_stamps : Cal P w K mg base "are_stamps" 3 ["thing", "length", "many"] spStamps) : Cal P w K mg base "are_rows" 4 ["thing", "length", "many"] spRows := by
  obtain ⟨f, fd, A, hm, hk, hb⟩ := T.d_are_rows
  refine ⟨f, fd, dfn A sc_are_rows (by intro ds S Q E h; obtain ⟨_, _, _, rfl, _⟩ := h; rfl) (fun cdv A outer s H E hr => ⟨_, (ds_one (ds_ret (de_and (de_callC (fun _ => c_is_tuple_of) (fun _ => hr) (by omega) (fun _ => bodyTk) (da_cons (de_var 0) (da_cons (de_var 2) da_nil))) (de_one (dc_all (fun _ => rfl) (fun _ => T.b_all) (da_cons (de_lc 3 (fun _ => rfl) (fun _ => sc_are_rows.nd) (di_sq (de_var 0)) (fun _ => blkOk_by (N := N_are_rows) (sc := defScope s_are_rows) (by decide +kernel)) dts_nil (de_callC (fun _ => c_are_stamps) (fun _ => hr) (by omega) (fun _ => takes0) (da_cons (de_var 3) (da_cons (de_var 1) (da_cons (de_var 2) da_nil)))) (fun _ => pg_name (i := 3) sc_are_rows.nd rfl (Or.inl rfl))) da_nil)))))), fun ds S Q E h => ?_⟩), hm, hk, hb⟩
  obtain ⟨d, n, m, rfl, hd, h⟩ := h
  walk_at "go"
  refine ⟨d, m, rfl, hd.plain, ?_⟩
  walk_at "go"
  unfold rowsOk at h
  refine ifB (fun e => ?_) (fun e => ?_)
  · rw [e, Bool.true_and] at h
    cases d with
    | tup xs =>
      cases hd with
      | tup hx hz =>
      walk_at "go"
      refine o_lcM _ rfl (small (by omega)) (fun x mx Pz hP => ?_) (o_all (g := stampsOk n m) h)
      walk_at "go"
      exact ⟨x, n, m, rfl, hx x mx, hP⟩
    | _ => cases e
  · rw [e, Bool.false_and] at h
    exact h
theorem ok_are_words (T : Txt K mg cBook cBad cCopy) (c_is_tuple_of : Cal P w K mg base "is_tuple_of" 1 ["thing", "length"] spTupOf) : Cal P w K mg base "are_words" 2 ["thing", "length"] spWords := by
  obtain ⟨f, fd, A, hm, hk, hb⟩ := T.d_are_words
  refine ⟨f, fd, dfn A sc_are_words (by intro ds S Q E h; obtain ⟨_, _, rfl, _⟩ := h; rfl) (fun cdv A outer s H E hr => ⟨_, (ds_one (ds_ret (de_and (de_callC (fun _ => c_is_tuple_of) (fun _ => hr) (by omega) (fun _ => bodyTk) (da_cons (de_var 0) (da_cons (de_var 1) da_nil))) (de_one (dc_all (fun _ => rfl) (fun _ => T.b_all) (da_cons (de_lc 2 (fun _ => rfl) (fun _ => sc_are_words.nd) (di_sq (de_var 0)) (fun _ => blkOk_by (N := N_are_words) (sc := defScope s_are_words) (by decide +kernel)) dts_nil (de_cmp (oq_inX fun _ => hr) lk_inX (de_var 2) (de_k (fun _ => rfl) T.k_WORDS) (by rfl)) (fun _ => pg_name (i := 2) sc_are_words.nd rfl (Or.inl rfl))) da_nil)))))), fun ds S Q E h => ?_⟩), hm, hk, hb⟩
  obtain ⟨d, n, rfl, hd, h⟩ := h
  walk_at "go"
  refine ⟨d, n, rfl, hd.plain, ?_⟩
  walk_at "go"
  unfold wordsOk at h
  refine ifB (fun e => ?_) (fun e => ?_)
  · rw [e, Bool.true_and] at h
    cases d with
    | tup xs =>
      cases hd with
      | tup hx hz =>
      walk_at "go"
      refine o_lcM _ rfl (small (by omega)) (fun x mx Pz hP => ?_) (o_all (g := inS words) h)
      walk_at "go"
      refine o_inS (xs := words) rfl (hx x mx).plain ?_
      rw [Bool.false_xor]
      exact hP
    | _ => cases e
  · rw [e, Bool.false_and] at h
    exact h
theorem ok_are_looks (T : Txt K mg cBook cBad cCopy) (c_is_tuple_of : Cal P w K mg base "is_tuple_of" 1 ["thing", "length"] spTupOf) (c_are_words : Cal P w K mg base "are_words" 2 ["thing", "length"] spWords) : Cal P w K mg base "are_looks" 3 ["thing", "many"] spLooks := by
  obtain ⟨f, fd, A, hm, hk, hb⟩ := T.d_are_looks
  refine ⟨f, fd, dfn A sc_are_looks (by intro ds S Q E h; obtain ⟨_, _, rfl, _⟩ := h; rfl) (fun cdv A outer s H E hr => ⟨_, (ds_one (ds_ret (de_and (de_callC (fun _ => c_is_tuple_of) (fun _ => hr) (by omega) (fun _ => bodyTk) (da_cons (de_var 0) (da_cons (de_var 1) da_nil))) (de_one (dc_all (fun _ => rfl) (fun _ => T.b_all) (da_cons (de_lc 2 (fun _ => rfl) (fun _ => sc_are_looks.nd) (di_sq (de_var 0)) (fun _ => blkOk_by (N := N_are_looks) (sc := defScope s_are_looks) (by decide +kernel)) dts_nil (de_callC (fun _ => c_are_words) (fun _ => hr) (by omega) (fun _ => takes0) (da_cons (de_var 2) (da_cons (de_var 1) da_nil))) (fun _ => pg_name (i := 2) sc_are_looks.nd rfl (Or.inl rfl))) da_nil)))))), fun ds S Q E h => ?_⟩), hm, hk, hb⟩
  obtain ⟨d, n, rfl, hd, h⟩ := h
  walk_at "go"
  refine ⟨d, n, rfl, hd.plain, ?_⟩
  walk_at "go"
  unfold looksOk at h
  refine ifB (fun e => ?_) (fun e => ?_)
  · rw [e, Bool.true_and] at h
    cases d with
    | tup xs =>
      cases hd with
      | tup hx hz =>
      walk_at "go"
      refine o_lcM _ rfl (small (by omega)) (fun x mx Pz hP => ?_) (o_all (g := wordsOk n) h)
      walk_at "go"
      exact ⟨x, n, rfl, hx x mx, hP⟩
    | _ => cases e
  · rw [e, Bool.false_and] at h
    exact h
def wrongM (m : Int) (f c k j l : D) : Option Str :=
  if (decide (1 ≤ m) && decide (m ≤ 400) && stampsOk m m c) = true then
    if btw 0 (m - 1) f = true then
      if rowsOk 2 m k = true then
        if rowsOk m m j = true then
          if (isN l || looksOk m l) = true then none else some "looks"
        else some "joins"
      else some "forks"
    else some "first"
  else some "changes"
def wrongD (f c k j l : D) : Option Str := match c with
  | .tup cs => wrongM cs.length f c k j l
  | _ => some "changes"
def optS : Option Str → D
  | none => .non
  | some s => .str s
def spWrong : DSp := fun ds S Q E => ∃ f c k j l, ds = [f, c, k, j, l] ∧ Dat f ∧ Dat c ∧ Dat k ∧ Dat j ∧ Dat l ∧ Q (optS (wrongD f c k j l)) S
theorem not_if {b : Bool} {A B : Prop} (h : if b = true then B else A) : if (!b) = true then A else B := by
  cases b <;> simpa using h
theorem ok_wrong_part (T : Txt K mg cBook cBad cCopy) (c_are_stamps : Cal P w K mg base "are_stamps" 3 ["thing", "length", "many"] spStamps) (c_is_between : Cal P w K mg base "is_between" 2 ["thing", "least", "most"] spBtw) (c_are_rows : Cal P w K mg base "are_rows" 4 ["thing", "length", "many"] spRows) (c_are_looks : Cal P w K mg base "are_looks" 3 ["thing", "many"] spLooks) : Cal P w K mg base "wrong_part" 5 ["first", "changes", "forks", "joins", "looks"] spWrong := by
  obtain ⟨f, fd, A, hm, hk, hb⟩ := T.d_wrong_part
  refine ⟨f, fd, dfn A sc_wrong_part (by intro ds S Q E h; obtain ⟨_, _, _, _, _, rfl, _⟩ := h; rfl) (fun cdv A outer s H E hr => ⟨_, (ds_cons (ds_if (DW.dt (dw_or (dt_not (dt_val (dc_isi (T := "tuple") (by decide) (by decide) (fun _ => T.b_isinstance) (da_cons (de_var 1) (da_cons (de_bltn (by intro _; rfl) (fun _ => T.b_tuple) bt_tuple (d := .ty "tuple") (v := .ty "tuple") rfl rfl) da_nil))))) (dw_or1 (dt_not (dt_chain (fun _ => op_le) (fun _ => op_le) lk_le lk_le de_int (dc_len (fun _ => T.b_len) (da_cons (de_var 1) da_nil)) (de_k (fun _ => rfl) T.k_MOST_STAMPS))))))
    (ds_one (ds_ret de_str))
    ds_nil)
    (ds_cons (ds_set 5 (fun _ => sc_wrong_part.nd) (dc_len (fun _ => T.b_len) (da_cons (de_var 1) da_nil)))
    (ds_cons (ds_if (dt_not (dt_val (de_callC (fun _ => c_are_stamps) (fun _ => hr) (by omega) (fun _ => bodyTk) (da_cons (de_var 1) (da_cons (de_var 5) (da_cons (de_var 5) da_nil))))))
    (ds_one (ds_ret de_str))
    ds_nil)
    (ds_cons (ds_if (dt_not (dt_val (de_callC (fun _ => c_is_between) (fun _ => hr) (by omega) (fun _ => bodyTk) (da_cons (de_var 0) (da_cons de_int (da_cons (de_sub (de_var 5) de_int) da_nil))))))
    (ds_one (ds_ret de_str))
    ds_nil)
    (ds_cons (ds_if (dt_not (dt_val (de_callC (fun _ => c_are_rows) (fun _ => hr) (by omega) (fun _ => bodyTk) (da_cons (de_var 2) (da_cons de_int (da_cons (de_var 5) da_nil))))))
    (ds_one (ds_ret de_str))
    ds_nil)
    (ds_cons (ds_if (dt_not (dt_val (de_callC (fun _ => c_are_rows) (fun _ => hr) (by omega) (fun _ => bodyTk) (da_cons (de_var 3) (da_cons (de_var 5) (da_cons (de_var 5) da_nil))))))
    (ds_one (ds_ret de_str))
    ds_nil)
    (ds_cons (ds_if (DW.dt (dw_and (dt_cmp (fun _ => op_notN) lk_notN (de_var 4) de_non (nomark _)) (dw_and1 (dt_not (dt_val (de_callC (fun _ => c_are_looks) (fun _ => hr) (by omega) (fun _ => bodyTk) (da_cons (de_var 4) (da_cons (de_var 5) da_nil))))))))
    (ds_one (ds_ret de_str))
    ds_nil)
    (ds_one (ds_ret de_non))))))))), fun ds S Q E h => ?_⟩), hm, hk, hb⟩
  obtain ⟨f, c, k, j, l, rfl, df, dc, dk, dj, dl, h⟩ := h
  have fin : ∀ {o : Option Str}, wrongD f c k j l = o → Q (optS o) S := fun e => e ▸ h
  have pc := dc.plain
  walk_at "go"
  cases c with
  | tup cs =>
    have hz : cs.length ≤ 1000 := by cases dc; assumption
    have df' : Dat (.tup cs) := dc
    walk_at "go"
    have no : ∀ {o : Option Str}, wrongM cs.length f (.tup cs) k j l = o → Q (optS o) S := fun e => fin e
    refine ifD (fun h1 => ?_) (fun h1 => ?_)
    · walk_at "go"
      refine not_if (ifD (fun h2 => ?_) (fun h2 => ?_))
      · walk_at "go"
        refine ⟨_, _, _, rfl, dc, ?_⟩
        walk_at "go"
        refine not_if (ifB (fun h3 => ?_) (fun h3 => ?_))
        · walk_at "go"
          refine ⟨_, _, _, rfl, df.plain, ?_⟩
          walk_at "go"
          refine not_if (ifB (fun h4 => ?_) (fun h4 => ?_))
          · walk_at "go"
            refine ⟨_, _, _, rfl, dk, ?_⟩
            walk_at "go"
            refine not_if (ifB (fun h5 => ?_) (fun h5 => ?_))
            · walk_at "go"
              refine ⟨_, _, _, rfl, dj, ?_⟩
              walk_at "go"
              refine not_if (ifB (fun h6 => ?_) (fun h6 => ?_))
              · walk_at "go"
                refine not_if (ifB (fun h7 => ?_) (fun h7 => ?_))
                · walk_at "go"
                  exact no (o := none) (by unfold wrongM; simp [h1, h2, h3, h4, h5, h6, h7])
                · walk_at "go"
                  refine ⟨_, _, rfl, dl, ?_⟩
                  walk_at "go"
                  refine not_if (ifB (fun h8 => ?_) (fun h8 => ?_))
                  · walk_at "go"
                    exact no (o := none) (by unfold wrongM; simp [h1, h2, h3, h4, h5, h6, h7, h8])
                  · walk_at "go"
                    exact no (o := some "looks") (by unfold wrongM; simp [h1, h2, h3, h4, h5, h6, h7, h8])
              · walk_at "go"
                exact no (o := some "joins") (by unfold wrongM; simp [h1, h2, h3, h4, h5, h6])
            · walk_at "go"
              exact no (o := some "forks") (by unfold wrongM; simp [h1, h2, h3, h4, h5])
          · walk_at "go"
            exact no (o := some "first") (by unfold wrongM; simp [h1, h2, h3, h4])
        · walk_at "go"
          exact no (o := some "changes") (by unfold wrongM; simp [h1, h2, h3])
      · walk_at "go"
        exact no (o := some "changes") (by unfold wrongM; simp [h1, h2])
    · walk_at "go"
      exact no (o := some "changes") (by unfold wrongM; simp [h1])
  | _ => first | (walk_at "go"; exact fin rfl) | cases pc
/-! the error, the class -/
theorem ok_BadBook (T : Txt K mg cBook cBad cCopy) : CalE P w K mg base "BadBook" cBad "part" := by
  obtain ⟨f, fd, A, M, hb⟩ := T.d_BadBook___init__
  exact ⟨f, fd, M, T.c_BadBook, err_init A sc_BadBook___init__ rfl M, hb⟩
def fieldsOf (f c k j l : D) : List (Str × D) := [("first", f), ("changes", c), ("forks", k), ("joins", j), ("looks", l)]
def spInit (cBook cBad : Addr) : DSp := fun ds S Q E => ∃ n f c k j l, ds = [.ref n, f, c, k, j, l] ∧ S[n]? = some (.ins cBook []) ∧ Dat f ∧ Dat c ∧ Dat k ∧ Dat j ∧ Dat l ∧
  (wrongD f c k j l = none → ∀ S', S'.length = S.length → S'[n]? = some (.ins cBook (fieldsOf f c k j l)) → (∀ m : Nat, m ≠ n → S'[m]? = S[m]?) → Q .non S') ∧
  ∀ s, wrongD f c k j l = some s → E ⟨cBad, some [("part", .str s)]⟩ S
theorem ok_Book___init__ (T : Txt K mg cBook cBad cCopy) (c_wrong_part : Cal P w K mg base "wrong_part" 5 ["first", "changes", "forks", "joins", "looks"] spWrong) (e_BadBook : CalE P w K mg base "BadBook" cBad "part") : CalM P w K mg base "Book" cBook 6 ["self", "first", "changes", "forks", "joins", "looks"] (spInit cBook cBad) := by
  obtain ⟨f, fd, A, M, hm, hb⟩ := T.d_Book___init__
  refine ⟨f, fd, M, dfn A sc_Book___init__ (by intro ds S Q E h; obtain ⟨_, _, _, _, _, _, rfl, _⟩ := h; rfl) (fun cdv A outer s H E hr => ⟨_, (ds_cons (ds_set 6 (fun _ => sc_Book___init__.nd) (de_callC (fun _ => c_wrong_part) (fun _ => hr) (by omega) (fun _ => bodyTk) (da_cons (de_var 1) (da_cons (de_var 2) (da_cons (de_var 3) (da_cons (de_var 4) (da_cons (de_var 5) da_nil)))))))
    (ds_cons (ds_if (dt_cmp (fun _ => op_notN) lk_notN (de_var 6) de_non (nomark _))
    (ds_one (ds_raiseC (fun _ => rfl) e_BadBook (fun _ => rfl) (fun _ => rfl) (fun _ => rfl) (fun _ => rfl) (fun _ => bodyTk) (fun _ => hr) (by omega) (de_var 6)))
    ds_nil)
    (ds_cons (ds_fld T.f_first (de_var 0) (de_var 1))
    (ds_cons (ds_fld T.f_changes (de_var 0) (de_var 2))
    (ds_cons (ds_fld T.f_forks (de_var 0) (de_var 3))
    (ds_cons (ds_fld T.f_joins (de_var 0) (de_var 4))
    (ds_one (ds_fld T.f_looks (de_var 0) (de_var 5))))))))), fun ds S Q E h => ?_⟩), hm, hb⟩
  obtain ⟨n, f, c, k, j, l, rfl, hn, df, dc, dk, dj, dl, h1, h2⟩ := h
  walk_at "go"
  refine ⟨_, _, _, _, _, rfl, df, dc, dk, dj, dl, ?_⟩
  cases e : wrongD f c k j l with
  | some s =>
    walk_at "go"
    exact h2 s e
  | none =>
    walk_at "go"
    refine o_setF hn rfl (by decide) fun S1 l1 e1 m1 => ?_
    walk_at "go"
    refine o_setF e1 rfl (by show 1 < 1000; decide) fun S2 l2 e2 m2 => ?_
    walk_at "go"
    refine o_setF e2 rfl (by show 2 < 1000; decide) fun S3 l3 e3 m3 => ?_
    walk_at "go"
    refine o_setF e3 rfl (by show 3 < 1000; decide) fun S4 l4 e4 m4 => ?_
    walk_at "go"
    refine o_setF e4 rfl (by show 4 < 1000; decide) fun S5 l5 e5 m5 => ?_
    walk_at "go"
    exact h1 e S5 (by omega) e5 fun m hm => (m5 m hm).trans ((m4 m hm).trans ((m3 m hm).trans ((m2 m hm).trans (m1 m hm))))
/-! the law's own look -/
theorem btw_lt {m : Int} {d : D} : btw 0 (m - 1) d = (match d with | .int i => decide (0 ≤ i) && decide (i < m) | _ => false) := by
  cases d with
  | int i =>
    show (decide (0 ≤ i) && decide (i ≤ m - 1)) = (decide (0 ≤ i) && decide (i < m))
    congr 1
    rw [decide_eq_decide]
    omega
  | _ => rfl
theorem ok__law_are (T : Txt K mg cBook cBad cCopy) : Cal P w K mg base "_law_are" 1 ["thing", "many", "stock"] spStamps := by
  obtain ⟨f, fd, A, hm, hk, hb⟩ := T.d__law_are
  refine ⟨f, fd, dfn A sc__law_are (by intro ds S Q E h; obtain ⟨_, _, _, rfl, _⟩ := h; rfl) (fun cdv A outer s H E hr => ⟨_, (ds_cons (ds_if (DW.dt (dw_or (dt_not (dt_val (dc_isi (T := "tuple") (by decide) (by decide) (fun _ => T.b_isinstance) (da_cons (de_var 0) (da_cons (de_bltn (by intro _; rfl) (fun _ => T.b_tuple) bt_tuple (d := .ty "tuple") (v := .ty "tuple") rfl rfl) da_nil))))) (dw_or1 (dt_cmp (oq_ne fun _ => hr) lk_ne (dc_len (fun _ => T.b_len) (da_cons (de_var 0) da_nil)) (de_var 1) (nomark _)))))
    (ds_one (ds_ret de_bl))
    ds_nil)
    (ds_one (ds_ret (dc_all (fun _ => rfl) (fun _ => T.b_all) (da_cons (de_lc 3 (fun _ => rfl) (fun _ => sc__law_are.nd) (di_sq (de_var 0)) (fun _ => blkOk_by (N := N__law_are) (sc := defScope s__law_are) (by decide +kernel)) dts_nil (de_and (dc_isi (T := "int") (by decide) (by decide) (fun _ => T.b_isinstance) (da_cons (de_var 3) (da_cons (de_bltn (by intro _; rfl) (fun _ => T.b_int) bt_int (d := .ty "int") (v := .ty "int") rfl rfl) da_nil))) (de_and (de_not (dc_isi (T := "bool") (by decide) (by decide) (fun _ => T.b_isinstance) (da_cons (de_var 3) (da_cons (de_bltn (by intro _; rfl) (fun _ => T.b_bool) bt_bool (d := .ty "bool") (v := .ty "bool") rfl rfl) da_nil)))) (de_one (de_chain (fun _ => op_le) (fun _ => op_lt) lk_le lk_lt de_int (de_var 3) (de_var 2))))) (fun _ => pg_name (i := 3) sc__law_are.nd rfl (Or.inl rfl))) da_nil))))), fun ds S Q E h => ?_⟩), hm, hk, hb⟩
  obtain ⟨d, n, m, rfl, hd, h⟩ := h
  have hp := hd.plain
  walk_at "go"
  cases d with
  | tup xs =>
    have hx : ∀ x ∈ xs, Dat x := by cases hd; assumption
    have hz : xs.length ≤ 1000 := by cases hd; assumption
    walk_at "go"
    rw [Bool.true_xor]
    refine not_if (ifD (fun e => ?_) (fun e => ?_))
    · walk_at "go"
      refine o_lcM (fun x => .bl (btw 0 (m - 1) x)) rfl (small (by omega)) (fun x mx Pz hP => ?_) (o_all (g := btw 0 (m - 1)) ?_)
      · rw [btw_lt] at hP
        have px := (hx x mx).plain
        walk_at "go"
        cases x with
        | int i =>
          walk_at "go"
          refine ifD (fun e => ?_) (fun e => ?_)
          · walk_at "go"
            have hP : Pz (.bl (decide (0 ≤ i) && decide (i < m))) S := hP
            rw [decide_eq_true e, Bool.true_and] at hP
            exact hP
          · have hP : Pz (.bl (decide (0 ≤ i) && decide (i < m))) S := hP
            rw [decide_eq_false e, Bool.false_and] at hP
            exact hP
        | _ => first | (walk_at "go"; exact hP) | cases px
      · have h : Q (.bl (decide ((xs.length : Int) = n) && xs.all (btw 0 (m - 1)))) S := h
        rw [decide_eq_true e, Bool.true_and] at h
        exact h
    · walk_at "go"
      have h : Q (.bl (decide ((xs.length : Int) = n) && xs.all (btw 0 (m - 1)))) S := h
      rw [decide_eq_false e, Bool.false_and] at h
      exact h
  | _ => first | (walk_at "go"; exact h) | cases hp
end
open PySem PySem.Spec PyProof.Rows L2 Dy

section
variable {cBook cBad cCopy : Addr} {P : Program} {w : World} {K : PySem.W.Frag} {mg : Str → Option Value} {base : Heap}
def zeros (m : Nat) : D := .tup (List.replicate m (.int 0))
def greatD (m : Nat) : D := .tup [.int 0, zeros m, .tup (List.replicate m (.tup [.int 0, .int 0])), .tup (List.replicate m (zeros m)), .non]
def spGreat : DSp := fun ds S Q E => ∃ m : Nat, ds = [.int m] ∧ 2 ≤ m ∧ m ≤ 1000 ∧ Q (greatD m) S
theorem o_rep1 {x : D} {m : Nat} {S : Store} {Q : QD} (h2 : 2 ≤ m) (h : m ≤ 1000) (k : Q (.tup (List.replicate m x)) S) : dRepT (.tup [x]) (.int m) S Q := by
  refine ⟨[x], m, rfl, rfl, by simp, by omega, by omega, by simp, ?_⟩
  have e : (List.replicate (m : Int).toNat [x]).flatten = List.replicate m x := by
    rw [Int.toNat_natCast]
    induction m with
    | zero => rfl
    | succ n ih => clear ih h2 h k; simp [List.flatten_replicate_singleton]
  rw [e]; exact k
theorem ok__law_great (T : Txt K mg cBook cBad cCopy) : Cal P w K mg base "_law_great" 1 ["many"] spGreat := by
  obtain ⟨f, fd, A, hm, hk, hb⟩ := T.d__law_great
  refine ⟨f, fd, dfn A sc__law_great (by intro ds S Q E h; obtain ⟨_, rfl, _⟩ := h; rfl) (fun cdv A outer s H E hr => ⟨_, (ds_cons (ds_set 1 (fun _ => sc__law_great.nd) (de_repT (de_tup (da_cons de_int da_nil)) (de_var 0)))
    (ds_one (ds_ret (de_tup (da_cons de_int (da_cons (de_var 1) (da_cons (de_repT (de_tup (da_cons (de_tup (da_cons de_int (da_cons de_int da_nil))) da_nil)) (de_var 0)) (da_cons (de_repT (de_tup (da_cons (de_var 1) da_nil)) (de_var 0)) (da_cons de_non da_nil))))))))), fun ds S Q E h => ?_⟩), hm, hk, hb⟩
  obtain ⟨m, rfl, h2, hm, h⟩ := h
  walk_at "go"
  refine o_rep1 h2 hm ?_
  walk_at "go"
  refine o_rep1 h2 hm ?_
  walk_at "go"
  refine o_rep1 h2 hm ?_
  walk_at "go"
  exact h
def dueS : Option Str → Str
  | none => "let"
  | some s => s
def spDue : DSp := fun ds S Q E => ∃ f c k j l, ds = [.tup [f, c, k, j, l]] ∧ Dat f ∧ Dat c ∧ Dat k ∧ Dat j ∧ Dat l ∧ Q (.str (dueS (wrongD f c k j l))) S
theorem all_no {f : D → Bool} {x : D} {xs : List D} (m : x ∈ xs) (e : f x = false) : xs.all f = false := by
  cases q : xs.all f with
  | false => rfl
  | true => rw [List.all_eq_true.mp q x m] at e; cases e
theorem rowsOk_no {n m : Int} {d : D} (h : ∀ xs, d ≠ .tup xs) : rowsOk n m d = false := by
  cases d with
  | tup xs => exact absurd rfl (h xs)
  | _ => rfl
theorem ok__law_due (T : Txt K mg cBook cBad cCopy) (c__law_are : Cal P w K mg base "_law_are" 1 ["thing", "many", "stock"] spStamps) : Cal P w K mg base "_law_due" 2 ["rows"] spDue := by
  obtain ⟨f, fd, A, hm, hk, hb⟩ := T.d__law_due
  refine ⟨f, fd, dfn A sc__law_due (by intro ds S Q E h; obtain ⟨_, _, _, _, _, rfl, _⟩ := h; rfl) (fun cdv A outer s H E hr => ⟨_, (ds_cons (ds_asg (de_var 0) (dg_tup (n := 5) (fun _ => rfl) (dgs_cons (dg_name 1 (fun _ => sc__law_due.nd)) (dgs_cons (dg_name 2 (fun _ => sc__law_due.nd)) (dgs_cons (dg_name 3 (fun _ => sc__law_due.nd)) (dgs_cons (dg_name 4 (fun _ => sc__law_due.nd)) (dgs_cons (dg_name 5 (fun _ => sc__law_due.nd)) dgs_nil)))))))
    (ds_cons (ds_set 6 (fun _ => sc__law_due.nd) (de_ifExp (dt_val (dc_isi (T := "tuple") (by decide) (by decide) (fun _ => T.b_isinstance) (da_cons (de_var 2) (da_cons (de_bltn (by intro _; rfl) (fun _ => T.b_tuple) bt_tuple (d := .ty "tuple") (v := .ty "tuple") rfl rfl) da_nil)))) (dc_len (fun _ => T.b_len) (da_cons (de_var 2) da_nil)) de_int))
    (ds_cons (ds_if (DW.dt (dw_or (dt_not (dt_chain (fun _ => op_le) (fun _ => op_le) lk_le lk_le de_int (de_var 6) de_int)) (dw_or1 (dt_not (dt_val (de_callC (fun _ => c__law_are) (fun _ => hr) (by omega) (fun _ => bodyTk) (da_cons (de_var 2) (da_cons (de_var 6) (da_cons (de_var 6) da_nil)))))))))
    (ds_one (ds_ret de_str))
    ds_nil)
    (ds_cons (ds_if (dt_not (dt_val (de_callC (fun _ => c__law_are) (fun _ => hr) (by omega) (fun _ => bodyTk) (da_cons (de_tup (da_cons (de_var 1) da_nil)) (da_cons de_int (da_cons (de_var 6) da_nil))))))
    (ds_one (ds_ret de_str))
    ds_nil)
    (ds_cons (ds_if (DW.dt (dw_or (dt_not (dt_val (dc_isi (T := "tuple") (by decide) (by decide) (fun _ => T.b_isinstance) (da_cons (de_var 3) (da_cons (de_bltn (by intro _; rfl) (fun _ => T.b_tuple) bt_tuple (d := .ty "tuple") (v := .ty "tuple") rfl rfl) da_nil))))) (dw_or (dt_cmp (oq_ne fun _ => hr) lk_ne (dc_len (fun _ => T.b_len) (da_cons (de_var 3) da_nil)) (de_var 6) (nomark _)) (dw_or1 (dt_not (dt_val (dc_all (fun _ => rfl) (fun _ => T.b_all) (da_cons (de_lc 8 (fun _ => rfl) (fun _ => sc__law_due.nd) (di_sq (de_var 3)) (fun _ => blkOk_by (N := N__law_due) (sc := defScope s__law_due) (by decide +kernel)) dts_nil (de_callC (fun _ => c__law_are) (fun _ => hr) (by omega) (fun _ => takes0) (da_cons (de_var 8) (da_cons de_int (da_cons (de_var 6) da_nil)))) (fun _ => pg_name (i := 8) sc__law_due.nd rfl (Or.inl rfl))) da_nil))))))))
    (ds_one (ds_ret de_str))
    ds_nil)
    (ds_cons (ds_if (DW.dt (dw_or (dt_not (dt_val (dc_isi (T := "tuple") (by decide) (by decide) (fun _ => T.b_isinstance) (da_cons (de_var 4) (da_cons (de_bltn (by intro _; rfl) (fun _ => T.b_tuple) bt_tuple (d := .ty "tuple") (v := .ty "tuple") rfl rfl) da_nil))))) (dw_or (dt_cmp (oq_ne fun _ => hr) lk_ne (dc_len (fun _ => T.b_len) (da_cons (de_var 4) da_nil)) (de_var 6) (nomark _)) (dw_or1 (dt_not (dt_val (dc_all (fun _ => rfl) (fun _ => T.b_all) (da_cons (de_lc 7 (fun _ => rfl) (fun _ => sc__law_due.nd) (di_sq (de_var 4)) (fun _ => blkOk_by (N := N__law_due) (sc := defScope s__law_due) (by decide +kernel)) dts_nil (de_callC (fun _ => c__law_are) (fun _ => hr) (by omega) (fun _ => takes0) (da_cons (de_var 7) (da_cons (de_var 6) (da_cons (de_var 6) da_nil)))) (fun _ => pg_name (i := 7) sc__law_due.nd rfl (Or.inl rfl))) da_nil))))))))
    (ds_one (ds_ret de_str))
    ds_nil)
    (ds_cons (ds_if (dt_cmp (fun _ => op_isN) lk_isN (de_var 5) de_non (nomark _))
    (ds_one (ds_ret de_str))
    ds_nil)
    (ds_cons (ds_if (DW.dt (dw_or (dt_not (dt_val (dc_isi (T := "tuple") (by decide) (by decide) (fun _ => T.b_isinstance) (da_cons (de_var 5) (da_cons (de_bltn (by intro _; rfl) (fun _ => T.b_tuple) bt_tuple (d := .ty "tuple") (v := .ty "tuple") rfl rfl) da_nil))))) (dw_or1 (dt_cmp (oq_ne fun _ => hr) lk_ne (dc_len (fun _ => T.b_len) (da_cons (de_var 5) da_nil)) (de_var 6) (nomark _)))))
    (ds_one (ds_ret de_str))
    ds_nil)
    (ds_cons (ds_for (fun _ => bodyHp) (fun _ => rfl) (di_sq (de_var 5)) (dg_name 7 (fun _ => sc__law_due.nd))
    (ds_cons (ds_if (DW.dt (dw_or (dt_not (dt_val (dc_isi (T := "tuple") (by decide) (by decide) (fun _ => T.b_isinstance) (da_cons (de_var 7) (da_cons (de_bltn (by intro _; rfl) (fun _ => T.b_tuple) bt_tuple (d := .ty "tuple") (v := .ty "tuple") rfl rfl) da_nil))))) (dw_or1 (dt_cmp (oq_ne fun _ => hr) lk_ne (dc_len (fun _ => T.b_len) (da_cons (de_var 7) da_nil)) (de_var 6) (nomark _)))))
    (ds_one (ds_ret de_str))
    ds_nil)
    (ds_one (ds_if (dt_not (dt_val (dc_all (fun _ => rfl) (fun _ => T.b_all) (da_cons (de_lc 9 (fun _ => rfl) (fun _ => sc__law_due.nd) (di_sq (de_var 7)) (fun _ => blkOk_by (N := N__law_due) (sc := defScope s__law_due) (by decide +kernel)) dts_nil (de_and (dc_isi (T := "str") (by decide) (by decide) (fun _ => T.b_isinstance) (da_cons (de_var 9) (da_cons (de_bltn (by intro _; rfl) (fun _ => T.b_str) bt_str (d := .ty "str") (v := .ty "str") rfl rfl) da_nil))) (de_one (de_cmp (oq_inX fun _ => hr) lk_inX (de_var 9) (de_lst (da_cons de_str (da_cons de_str (da_cons de_str (da_cons de_str da_nil))))) (by rfl)))) (fun _ => pg_name (i := 9) sc__law_due.nd rfl (Or.inl rfl))) da_nil))))
    (ds_one (ds_ret de_str))
    ds_nil))))
    (ds_one (ds_ret de_str))))))))))), fun ds S Q E h => ?_⟩), hm, hk, hb⟩
  obtain ⟨f, c, k, j, l, rfl, df, dc, dk, dj, dl, h⟩ := h
  have fin : ∀ {o : Option Str}, wrongD f c k j l = o → Q (.str (dueS o)) S := fun e => e ▸ h
  have pc := dc.plain
  have pk := dk.plain
  have pj := dj.plain
  have pl := dl.plain
  walk_at "go"
  cases c with
  | tup cs =>
    have hc : cs.length ≤ 1000 := by cases dc; assumption
    have no : ∀ {o : Option Str}, wrongM cs.length f (.tup cs) k j l = o → Q (.str (dueS o)) S := fun e => fin e
    walk_at "go"
    refine ifD (fun h1 => ?_) (fun h1 => ?_)
    · walk_at "go"
      refine not_if (ifD (fun h2 => ?_) (fun h2 => ?_))
      · walk_at "go"
        refine ⟨_, _, _, rfl, dc, ?_⟩
        walk_at "go"
        refine not_if (ifB (fun h3 => ?_) (fun h3 => ?_))
        · walk_at "go"
          refine ⟨_, _, _, rfl, .tup (by simpa using df) (by simp), ?_⟩
          walk_at "go"
          have e4 : stampsOk 1 cs.length (.tup [f]) = btw 0 (cs.length - 1) f := by
            show (decide ((([f] : List D).length : Int) = 1) && [f].all (btw 0 (cs.length - 1))) = _
            simp
          rw [e4]
          refine not_if (ifB (fun h4 => ?_) (fun h4 => ?_))
          · walk_at "go"
            cases k with
            | tup ks =>
              have hz : ks.length ≤ 1000 := by cases dk; assumption
              have hx : ∀ x ∈ ks, Dat x := by cases dk; assumption
              walk_at "go"
              rw [Bool.true_xor]
              refine not_if (ifD (fun h5a => ?_) (fun h5a => ?_))
              · walk_at "go"
                refine o_lcM (fun x => .bl (stampsOk 2 cs.length x)) rfl (small (by omega)) (fun x mx Pz hP => ?_) ?_
                · walk_at "go"
                  exact ⟨_, _, _, rfl, hx x mx, hP⟩
                walk_at "go"
                refine o_all (g := stampsOk 2 cs.length) ?_
                walk_at "go"
                refine not_if (ifB (fun h5b => ?_) (fun h5b => ?_))
                · have h5 : rowsOk 2 cs.length (.tup ks) = true := by
                    show (decide ((ks.length : Int) = cs.length) && ks.all (stampsOk 2 cs.length)) = true
                    rw [decide_eq_true h5a, h5b]; rfl
                  walk_at "go"
                  cases j with
                  | tup js =>
                    have hz : js.length ≤ 1000 := by cases dj; assumption
                    have hx : ∀ x ∈ js, Dat x := by cases dj; assumption
                    walk_at "go"
                    rw [Bool.true_xor]
                    refine not_if (ifD (fun h6a => ?_) (fun h6a => ?_))
                    · walk_at "go"
                      refine o_lcM (fun x => .bl (stampsOk cs.length cs.length x)) rfl (small (by omega)) (fun x mx Pz hP => ?_) ?_
                      · walk_at "go"
                        exact ⟨_, _, _, rfl, hx x mx, hP⟩
                      walk_at "go"
                      refine o_all (g := stampsOk cs.length cs.length) ?_
                      walk_at "go"
                      refine not_if (ifB (fun h6b => ?_) (fun h6b => ?_))
                      · have h6 : rowsOk cs.length cs.length (.tup js) = true := by
                          show (decide ((js.length : Int) = cs.length) && js.all (stampsOk cs.length cs.length)) = true
                          rw [decide_eq_true h6a, h6b]; rfl
                        walk_at "go"
                        cases l with
                        | non =>
                          walk_at "go"
                          exact no (o := none) (by unfold wrongM; simp [h1, h2, h3, h4, h5, h6, isN])
                        | tup ls =>
                          have hz : ls.length ≤ 1000 := by cases dl; assumption
                          have hx : ∀ x ∈ ls, Dat x := by cases dl; assumption
                          walk_at "go"
                          rw [Bool.true_xor]
                          refine not_if (ifD (fun h7 => ?_) (fun h7 => ?_))
                          · walk_at "go"
                            have bad : ∀ x ∈ ls, wordsOk cs.length x = false → looksOk cs.length (.tup ls) = false := fun x m e => by
                              show (decide ((ls.length : Int) = cs.length) && ls.all (wordsOk cs.length)) = false
                              rw [all_no m e, Bool.and_false]
                            have nok : ∀ x ∈ ls, wordsOk cs.length x = false → Q (.str "looks") S := fun x m e => no (o := some "looks") (by unfold wrongM; simp [h1, h2, h3, h4, h5, h6, isN, bad x m e])
                            refine ⟨fun i ρ S' => S' = S ∧ (∃ o, ρ = [some (.tup [f, .tup cs, .tup ks, .tup js, .tup ls]), some f, some (.tup cs), some (.tup ks), some (.tup js), some (.tup ls), some (.int cs.length), o, none, none]) ∧ ∀ x ∈ ls.take i, wordsOk cs.length x = true,
                              ⟨rfl, ⟨none, rfl⟩, by simp⟩, fun _ _ S' _ hh => by rw [hh.1]; rfl, ?_, ?_⟩
                            · rintro i x ρ S' hi ⟨rfl, ⟨o, rfl⟩, hw⟩
                              have mx : x ∈ ls := List.mem_of_getElem? hi
                              have dx := hx x mx
                              have px := dx.plain
                              have nx : wordsOk cs.length x = true → ∀ y ∈ ls.take (i + 1), wordsOk cs.length y = true := fun e y my => by
                                rw [List.take_succ, hi] at my
                                rcases List.mem_append.mp my with my | my
                                · exact hw y my
                                · rw [List.mem_singleton.mp my]; exact e
                              walk_at "go"
                              cases x with
                              | tup xs =>
                                have hzx : xs.length ≤ 1000 := by cases dx; assumption
                                have hxx : ∀ x ∈ xs, Dat x := by cases dx; assumption
                                walk_at "go"
                                rw [Bool.true_xor]
                                refine not_if (ifD (fun g1 => ?_) (fun g1 => ?_))
                                · walk_at "go"
                                  refine o_lcM (fun x => .bl (inS words x)) rfl (small (by omega)) (fun y my Pz hP => ?_) ?_
                                  · have py := (hxx y my).plain
                                    walk_at "go"
                                    cases y with
                                    | str s =>
                                      walk_at "go"
                                      refine o_inS (xs := words) rfl rfl ?_
                                      rw [Bool.false_xor]
                                      exact hP
                                    | _ => first | (walk_at "go"; exact hP) | cases py
                                  walk_at "go"
                                  refine o_all (g := inS words) ?_
                                  walk_at "go"
                                  refine not_if (ifB (fun g2 => ?_) (fun g2 => ?_))
                                  · walk_at "go"
                                    refine ⟨rfl, ⟨_, rfl⟩, nx ?_⟩
                                    show (decide ((xs.length : Int) = cs.length) && xs.all (inS words)) = true
                                    rw [decide_eq_true g1, g2]; rfl
                                  · walk_at "go"
                                    refine nok _ mx ?_
                                    show (decide ((xs.length : Int) = cs.length) && xs.all (inS words)) = false
                                    rw [g2, Bool.and_false]
                                · walk_at "go"
                                  refine nok _ mx ?_
                                  show (decide ((xs.length : Int) = cs.length) && xs.all (inS words)) = false
                                  rw [decide_eq_false g1, Bool.false_and]
                              | _ => first | (walk_at "go"; exact nok _ mx rfl) | cases px
                            · rintro ρ S' ⟨rfl, ⟨o, rfl⟩, hw⟩
                              rw [List.take_length] at hw
                              have good : looksOk cs.length (.tup ls) = true := by
                                show (decide ((ls.length : Int) = cs.length) && ls.all (wordsOk cs.length)) = true
                                rw [decide_eq_true h7, List.all_eq_true.mpr hw]; rfl
                              walk_at "go"
                              exact no (o := none) (by unfold wrongM; simp [h1, h2, h3, h4, h5, h6, isN, good])
                          · walk_at "go"
                            exact no (o := some "looks") (by unfold wrongM; simp [h1, h2, h3, h4, h5, h6, h7, isN, looksOk, tupN])
                        | _ =>
                          first
                            | (walk_at "go"; exact no (o := some "looks") (by unfold wrongM; simp [h1, h2, h3, h4, h5, h6, isN, looksOk, tupN]))
                            | cases pl
                      · have h6 : rowsOk cs.length cs.length (.tup js) = false := by
                          show (decide ((js.length : Int) = cs.length) && js.all (stampsOk cs.length cs.length)) = false
                          rw [h6b, Bool.and_false]
                        walk_at "go"
                        exact no (o := some "joins") (by unfold wrongM; simp [h1, h2, h3, h4, h5, h6])
                    · have h6 : rowsOk cs.length cs.length (.tup js) = false := by
                        show (decide ((js.length : Int) = cs.length) && js.all (stampsOk cs.length cs.length)) = false
                        rw [decide_eq_false h6a, Bool.false_and]
                      walk_at "go"
                      exact no (o := some "joins") (by unfold wrongM; simp [h1, h2, h3, h4, h5, h6])
                  | _ =>
                    first
                      | (walk_at "go"; exact no (o := some "joins") (by unfold wrongM; rw [rowsOk_no (n := (cs.length : Int))] <;> first | (intro _ e; cases e; done) | (simp [h1, h2, h3, h4, h5]; done)))
                      | cases pj
                · have h5 : rowsOk 2 cs.length (.tup ks) = false := by
                    show (decide ((ks.length : Int) = cs.length) && ks.all (stampsOk 2 cs.length)) = false
                    rw [h5b, Bool.and_false]
                  walk_at "go"
                  exact no (o := some "forks") (by unfold wrongM; simp [h1, h2, h3, h4, h5])
              · have h5 : rowsOk 2 cs.length (.tup ks) = false := by
                  show (decide ((ks.length : Int) = cs.length) && ks.all (stampsOk 2 cs.length)) = false
                  rw [decide_eq_false h5a, Bool.false_and]
                walk_at "go"
                exact no (o := some "forks") (by unfold wrongM; simp [h1, h2, h3, h4, h5])
            | _ =>
              first
                | (walk_at "go"; exact no (o := some "forks") (by unfold wrongM; simp [h1, h2, h3, h4, rowsOk, tupN]))
                | cases pk
          · walk_at "go"
            exact no (o := some "first") (by unfold wrongM; simp [h1, h2, h3, h4])
        · walk_at "go"
          exact no (o := some "changes") (by unfold wrongM; simp [h1, h2, h3])
      · walk_at "go"
        exact no (o := some "changes") (by unfold wrongM; simp [h1, h2])
    · walk_at "go"
      exact no (o := some "changes") (by unfold wrongM; simp [h1])
  | _ => first | (walk_at "go"; exact fin (o := some "changes") rfl) | cases pc
end
open PySem PySem.Spec PyProof.Rows L2 Dy

section
variable {cBook cBad cCopy : Addr} {P : Program} {w : World} {K : PySem.W.Frag} {mg : Str → Option Value} {base : Heap}
/-- what is right is plain -/
theorem ok_stamps {n m : Int} {d : D} (h : stampsOk n m d = true) : okD 1 d = true := by
  unfold stampsOk at h
  rw [Bool.and_eq_true] at h
  cases d with
  | tup xs =>
    show xs.all (okD 0) = true
    refine List.all_eq_true.mpr fun x mx => ?_
    have hx : btw 0 (m - 1) x = true := List.all_eq_true.mp h.2 x mx
    cases x <;> first | rfl | cases hx
  | _ => cases h.1
theorem ok_rows {n m : Int} {d : D} (h : rowsOk n m d = true) : okD 2 d = true := by
  unfold rowsOk at h
  rw [Bool.and_eq_true] at h
  cases d with
  | tup xs => exact List.all_eq_true.mpr fun x mx => ok_stamps (List.all_eq_true.mp h.2 x mx)
  | _ => cases h.1
theorem ok_words {n : Int} {d : D} (h : wordsOk n d = true) : okD 1 d = true := by
  unfold wordsOk at h
  rw [Bool.and_eq_true] at h
  cases d with
  | tup xs =>
    refine List.all_eq_true.mpr fun x mx => ?_
    have hx : inS words x = true := List.all_eq_true.mp h.2 x mx
    cases x <;> first | rfl | cases hx
  | _ => cases h.1
theorem ok_looks {n : Int} {d : D} (h : looksOk n d = true) : okD 2 d = true := by
  unfold looksOk at h
  rw [Bool.and_eq_true] at h
  cases d with
  | tup xs => exact List.all_eq_true.mpr fun x mx => ok_words (List.all_eq_true.mp h.2 x mx)
  | _ => cases h.1
theorem okD_le {n m : Nat} {d : D} (h : n ≤ m) (k : okD n d = true) : okD m d = true := by
  induction n generalizing m d with
  | zero => cases d <;> first | (cases m <;> rfl) | cases k
  | succ n ih =>
    cases m with
    | zero => omega
    | succ m =>
      cases d <;> first
        | rfl
        | (rename_i xs
           have k : xs.all (okD n) = true := k
           exact List.all_eq_true.mpr fun x mx => ih (by omega) (List.all_eq_true.mp k x mx))
        | cases k
theorem ok_book {f c k j l : D} (h : wrongD f c k j l = none) : okD 3 (.tup [f, c, k, j, l]) = true := by
  cases c with
  | tup cs =>
    have h : wrongM cs.length f (.tup cs) k j l = none := h
    unfold wrongM at h
    split at h
    · rename_i h1
      rw [Bool.and_eq_true] at h1
      split at h
      · rename_i h2
        split at h
        · rename_i h3
          split at h
          · rename_i h4
            split at h
            · rename_i h5
              have b1 : okD 2 f = true := by cases f <;> first | rfl | cases h2
              have b2 := okD_le (show 1 ≤ 2 by decide) (ok_stamps h1.2)
              have b3 := ok_rows h3
              have b4 := ok_rows h4
              have b5 : okD 2 l = true := by
                rcases (Bool.or_eq_true _ _).mp h5 with h5 | h5
                · cases l <;> first | rfl | cases h5
                · exact ok_looks h5
              show ([f, .tup cs, k, j, l] : List D).all (okD 2) = true
              simp [b1, b2, b3, b4, b5]
            · cases h
          · cases h
        · cases h
      · cases h
    · cases h
  | _ => cases h
/-- only new things came -/
def Grown (S S' : Store) : Prop := S.length ≤ S'.length ∧ ∀ m : Nat, m < S.length → S'[m]? = S[m]?
def spTold : DSp := fun ds S Q E => ∃ f c k j l, ds = [.tup [f, c, k, j, l]] ∧ Dat f ∧ Dat c ∧ Dat k ∧ Dat j ∧ Dat l ∧ ∀ S', Grown S S' → Q (.str (dueS (wrongD f c k j l))) S'
theorem ok__law_told (T : Txt K mg cBook cBad cCopy) (c_Book : CalM P w K mg base "Book" cBook 6 ["self", "first", "changes", "forks", "joins", "looks"] (spInit cBook cBad)) : Cal P w K mg base "_law_told" 8 ["rows"] spTold := by
  obtain ⟨f, fd, A, hm, hk, hb⟩ := T.d__law_told
  refine ⟨f, fd, dfn A sc__law_told (by intro ds S Q E h; obtain ⟨_, _, _, _, _, rfl, _⟩ := h; rfl) (fun cdv A outer s H E hr => ⟨_, (ds_cons (ds_set 1 (fun _ => sc__law_told.nd) de_str)
    (ds_cons (ds_tryAs 3 (em_one T.em_BadBook) (fun _ => rfl) (fun _ => rfl) (fun _ => sc__law_told.nd) (fun _ => ⟨rfl, by decide, .inl T.c_BadBook⟩) (fun _ => bodyTk) (fun W2 => (ds_cons (ds_set 2 (fun _ => sc__law_told.nd) (de_makeC (fun _ => c_Book) (fun _ => hr) (by omega) (fun j => tr_tk j) (da_cons (de_at (de_var 0) de_int) (da_cons (de_at (de_var 0) de_int) (da_cons (de_at (de_var 0) de_int) (da_cons (de_at (de_var 0) de_int) (da_cons (de_at (de_var 0) de_int) da_nil)))))))
    (ds_one (ds_if (dt_cmp (oq_ne fun _ => hr) lk_ne (de_tup (da_cons (de_fld T.f_first (de_var 2)) (da_cons (de_fld T.f_changes (de_var 2)) (da_cons (de_fld T.f_forks (de_var 2)) (da_cons (de_fld T.f_joins (de_var 2)) (da_cons (de_fld T.f_looks (de_var 2)) da_nil)))))) (de_var 0) (nomark _))
    (ds_one (ds_set 1 (fun _ => sc__law_told.nd) de_str))
    ds_nil))))
    (su_only (C := cBad) (fun a dd => (ds_one (ds_set 1 (fun _ => sc__law_told.nd) (de_ifExp (DW.dt (dw_and (dt_val (dc_isE T.xi T.kit (fun _ => T.b_isinstance) (da_cons (de_var 3) (da_cons (de_glob (by intro _; rfl) (fun _ => T.c_CopyError) rfl (d := .cls _) (v := .ref _) rfl) da_nil)))) (dw_and1 (dt_val (dc_isE T.xi T.kit (fun _ => T.b_isinstance) (da_cons (de_var 3) (da_cons (de_bltn (by intro _; rfl) (fun _ => T.b_ValueError) bt_ValueError (d := .ty "ValueError") (v := .ty "ValueError") rfl rfl) da_nil))))))) (de_xe T.xf T.nof (de_var 3)) de_str))))))
    (ds_one (ds_ret (de_var 1))))), fun ds S Q E h => ?_⟩), hm, hk, hb⟩
  obtain ⟨f, c, k, j, l, rfl, df, dc, dk, dj, dl, h⟩ := h
  walk_at "go"
  refine ⟨_, _, _, _, _, _, rfl, by rw [List.getElem?_append_right (Nat.le_refl _)]; simp, df, dc, dk, dj, dl, fun e S' hl hn hm => ?_, fun s e => ?_⟩
  · have gr : Grown S S' := ⟨by rw [hl]; simp, fun m hlt => by rw [hm m (by omega), List.getElem?_append_left hlt]⟩
    refine ⟨rfl, ?_⟩
    walk_at "go"
    refine o_eqT (ok_book e) (by decide) ?_
    walk_at "go"
    have h := h S' gr
    rw [e] at h
    exact h
  · refine ⟨true, if_pos rfl, fun _ a d hd => ?_, fun z => by cases z⟩
    cases d with
    | none => cases hd
    | some dd =>
      have ev : exV a (some dd) ⟨cBad, some [("part", .str s)]⟩ = .exo a dd ["part"] [.str s] := rfl
      rw [ev]
      walk_at "go"
      have h := h (S ++ [SO.ins cBook []]) ⟨by simp, fun m hm => List.getElem?_append_left hm⟩
      rw [e] at h
      exact h
end
open PySem PySem.Spec PyProof.Rows L2 Dy

section
variable {cBook cBad cCopy : Addr} {P : Program} {w : World} {K : PySem.W.Frag} {mg : Str → Option Value} {base : Heap}
theorem log_int {m : Int} (h0 : 0 ≤ m) (h : m ≤ 1000) : m.natAbs.log2 < 9000 := by
  obtain ⟨k, rfl⟩ := Int.eq_ofNat_of_zero_le h0
  exact log_len (small (by omega))
def spRowsL : DSp := fun ds S Q E => ∃ n g m b, ds = [.ref n, .int m, .bl b] ∧ PotAt S n g ∧ 1 ≤ m ∧ m ≤ 400 ∧
  ∀ f c k j l S', wrongD f c k j l = none → Dat f → Dat c → Dat k → Dat j → Dat l → PotAt S' n g → Kept [n, g] S S' → Q (.tup [f, c, k, j, l]) S'
theorem all_tup {f : D → Bool} {n : Int} {xs : List D} (h : (xs.length : Int) = n) (k : ∀ x ∈ xs, f x = true) : (tupN n (.tup xs) && allT f (.tup xs)) = true := by
  show (decide ((xs.length : Int) = n) && xs.all f) = true
  rw [decide_eq_true h, List.all_eq_true.mpr k]; rfl
theorem ok__law_rows (T : Txt K mg cBook cBad cCopy) (c__law_draw : Cal P w K mg base "_law_draw" 1 ["pot", "many"] spDraw) : Cal P w K mg base "_law_rows" 2 ["hand", "many", "looks"] spRowsL := by
  obtain ⟨f, fd, A, hm, hk, hb⟩ := T.d__law_rows
  refine ⟨f, fd, dfn A sc__law_rows (by intro ds S Q E h; obtain ⟨_, _, _, _, rfl, _⟩ := h; rfl) (fun cdv A outer s H E hr => ⟨_, (ds_cons (ds_set 3 (fun _ => sc__law_rows.nd) (dc_tuple (fun _ => T.b_tuple) (da_cons (de_lc 8 (fun _ => rfl) (fun _ => sc__law_rows.nd) (di_rng1 (by intro _; rfl) (fun _ => T.b_range) (da_cons (de_var 1) da_nil)) (fun _ => blkOk_by (N := N__law_rows) (sc := defScope s__law_rows) (by decide +kernel)) dts_nil (de_callC (fun _ => c__law_draw) (fun _ => hr) (by omega) (fun _ => takes0) (da_cons (de_var 0) (da_cons (de_var 1) da_nil))) (fun _ => pg_name (i := 8) sc__law_rows.nd rfl (Or.inl rfl))) da_nil)))
    (ds_cons (ds_set 4 (fun _ => sc__law_rows.nd) (dc_tuple (fun _ => T.b_tuple) (da_cons (de_lc 8 (fun _ => rfl) (fun _ => sc__law_rows.nd) (di_rng1 (by intro _; rfl) (fun _ => T.b_range) (da_cons (de_var 1) da_nil)) (fun _ => blkOk_by (N := N__law_rows) (sc := defScope s__law_rows) (by decide +kernel)) dts_nil (de_tup (da_cons (de_callC (fun _ => c__law_draw) (fun _ => hr) (by omega) (fun _ => takes0) (da_cons (de_var 0) (da_cons (de_var 1) da_nil))) (da_cons (de_callC (fun _ => c__law_draw) (fun _ => hr) (by omega) (fun _ => takes0) (da_cons (de_var 0) (da_cons (de_var 1) da_nil))) da_nil))) (fun _ => pg_name (i := 8) sc__law_rows.nd rfl (Or.inl rfl))) da_nil)))
    (ds_cons (ds_set 5 (fun _ => sc__law_rows.nd) (dc_tuple (fun _ => T.b_tuple) (da_cons (de_lc 8 (fun _ => rfl) (fun _ => sc__law_rows.nd) (di_rng1 (by intro _; rfl) (fun _ => T.b_range) (da_cons (de_var 1) da_nil)) (fun _ => blkOk_by (N := N__law_rows) (sc := defScope s__law_rows) (by decide +kernel)) dts_nil (dc_tuple (fun _ => T.b_tuple) (da_cons (de_lc 9 (fun _ => rfl) (fun _ => sc__law_rows.nd) (di_rng1 (by intro _; rfl) (fun _ => T.b_range) (da_cons (de_var 1) da_nil)) (fun _ => blkOk_by (by rfl)) dts_nil (de_callC (fun _ => c__law_draw) (fun _ => hr) (by omega) (fun _ => takes0) (da_cons (de_var 0) (da_cons (de_var 1) da_nil))) (fun _ => pg_name (i := 9) sc__law_rows.nd rfl (Or.inl rfl))) da_nil)) (fun _ => pg_name (i := 8) sc__law_rows.nd rfl (Or.inl rfl))) da_nil)))
    (ds_cons (ds_set 6 (fun _ => sc__law_rows.nd) (de_lst (da_cons de_str (da_cons de_str (da_cons de_str (da_cons de_str da_nil))))))
    (ds_cons (ds_set 7 (fun _ => sc__law_rows.nd) (dc_tuple (fun _ => T.b_tuple) (da_cons (de_lc 8 (fun _ => rfl) (fun _ => sc__law_rows.nd) (di_rng1 (by intro _; rfl) (fun _ => T.b_range) (da_cons (de_var 1) da_nil)) (fun _ => blkOk_by (N := N__law_rows) (sc := defScope s__law_rows) (by decide +kernel)) dts_nil (dc_tuple (fun _ => T.b_tuple) (da_cons (de_lc 9 (fun _ => rfl) (fun _ => sc__law_rows.nd) (di_rng1 (by intro _; rfl) (fun _ => T.b_range) (da_cons (de_var 1) da_nil)) (fun _ => blkOk_by (by rfl)) dts_nil (de_at (de_var 6) (de_callC (fun _ => c__law_draw) (fun _ => hr) (by omega) (fun _ => takes0) (da_cons (de_var 0) (da_cons de_int da_nil)))) (fun _ => pg_name (i := 9) sc__law_rows.nd rfl (Or.inl rfl))) da_nil)) (fun _ => pg_name (i := 8) sc__law_rows.nd rfl (Or.inl rfl))) da_nil)))
    (ds_one (ds_ret (de_tup (da_cons (de_callC (fun _ => c__law_draw) (fun _ => hr) (by omega) (fun _ => bodyTk) (da_cons (de_var 0) (da_cons (de_var 1) da_nil))) (da_cons (de_var 3) (da_cons (de_var 4) (da_cons (de_var 5) (da_cons (de_ifExp (dt_val (de_var 2)) (de_var 7) de_non) da_nil))))))))))))), fun ds S Q E h => ?_⟩), hm, hk, hb⟩
  obtain ⟨n, g, m, b, rfl, hp, h1, h4, h⟩ := h
  obtain ⟨M, hM⟩ := Int.eq_ofNat_of_zero_le (show 0 ≤ m by omega)
  have hn : m.toNat ≤ 400 := by omega
  have hmn : ((m.toNat : Nat) : Int) = m := by omega
  have draw : ∀ (k : Int) (S' : Store) (P : QD) (E : XQ), 1 ≤ k → k ≤ 1000 → (PotAt S' n g ∧ Kept [n, g] S S') → (∀ y S2, (Dat y ∧ btw 0 (k - 1) y = true) → (PotAt S2 n g ∧ Kept [n, g] S S2) → P y S2) → spDraw [.ref n, .int k] S' P E := fun k S' P E k1 k2 hR hP =>
    ⟨n, g, k, rfl, hR.1, by omega, log_int (by omega) k2, fun r S2 r0 r1 hp2 kp => hP _ _ ⟨.int r, by show (decide (0 ≤ r) && decide (r ≤ k - 1)) = true; rw [decide_eq_true r0, decide_eq_true (by omega)]; rfl⟩ ⟨hp2, hR.2.trans kp⟩⟩
  walk_at "go"
  refine ⟨m, rfl, by omega, by omega, ?_⟩
  refine o_lcP (fun S' => PotAt S' n g ∧ Kept [n, g] S S') (fun y => Dat y ∧ btw 0 (m - 1) y = true) (fun _ _ => trivial) ⟨hp, .refl⟩ (by rw [rng_len]; exact small (by omega)) (fun x mx S' hR Pz hP => ?_) fun cs S1 R1 lc pc => ?_
  · walk_at "go"
    exact draw m S' Pz _ h1 (by omega) hR hP
  rw [rng_len] at lc
  walk_at "go"
  refine ⟨m, rfl, by omega, by omega, ?_⟩
  refine o_lcP (fun S' => PotAt S' n g ∧ Kept [n, g] S S') (fun y => Dat y ∧ stampsOk 2 m y = true) (fun _ _ => trivial) R1 (by rw [rng_len]; exact small (by omega)) (fun x mx S' hR Pz hP => ?_) fun ks S2 R2 lk pk => ?_
  · walk_at "go"
    refine draw m S' _ _ h1 (by omega) hR fun y S3 py R3 => ?_
    walk_at "go"
    refine draw m S3 _ _ h1 (by omega) R3 fun z S4 pz R4 => ?_
    walk_at "go"
    refine hP _ _ ⟨.tup (by simp [py.1, pz.1]) (by simp), all_tup rfl (by simp [py.2, pz.2])⟩ R4
  rw [rng_len] at lk
  walk_at "go"
  refine ⟨m, rfl, by omega, by omega, ?_⟩
  refine o_lcP (fun S' => PotAt S' n g ∧ Kept [n, g] S S') (fun y => Dat y ∧ stampsOk m m y = true) (fun _ _ => trivial) R2 (by rw [rng_len]; exact small (by omega)) (fun x mx S' hR Pz hP => ?_) fun js S3 R3 lj pj => ?_
  · walk_at "go"
    refine ⟨m, rfl, by omega, by omega, ?_⟩
    refine o_lcP (fun S' => PotAt S' n g ∧ Kept [n, g] S S') (fun y => Dat y ∧ btw 0 (m - 1) y = true) (fun _ _ => trivial) hR (by rw [rng_len]; exact small (by omega)) (fun x mx S' hR Pz hP => ?_) fun ys S3 R3 ly py => ?_
    · walk_at "go"
      exact draw m S' Pz _ h1 (by omega) hR hP
    rw [rng_len] at ly
    walk_at "go"
    exact hP _ _ ⟨.tup (fun x mx => (py x mx).1) (by omega), all_tup (by omega) fun x mx => (py x mx).2⟩ R3
  rw [rng_len] at lj
  walk_at "go"
  refine ⟨m, rfl, by omega, by omega, ?_⟩
  refine o_lcP (fun S' => PotAt S' n g ∧ Kept [n, g] S S') (fun y => Dat y ∧ wordsOk m y = true) (fun _ _ => trivial) R3 (by rw [rng_len]; exact small (by omega)) (fun x mx S' hR Pz hP => ?_) fun ls S4 R4 ll pl => ?_
  · walk_at "go"
    refine ⟨m, rfl, by omega, by omega, ?_⟩
    refine o_lcP (fun S' => PotAt S' n g ∧ Kept [n, g] S S') (fun y => Dat y ∧ inS words y = true) (fun _ _ => trivial) hR (by rw [rng_len]; exact small (by omega)) (fun x mx S' hR Pz hP => ?_) fun ys S3 R3 ly py => ?_
    · walk_at "go"
      refine ⟨n, g, 4, rfl, hR.1, by decide, by decide, fun r S2 r0 r1 hp2 kp => ?_⟩
      obtain ⟨x, hx, mx⟩ := at_in (xs := words.map D.str) r0 r1
      obtain ⟨s, ms, rfl⟩ := List.mem_map.mp mx
      exact o_ix rfl hx (hP _ _ ⟨.str s, List.any_eq_true.mpr ⟨s, ms, decide_eq_true rfl⟩⟩ ⟨hp2, hR.2.trans kp⟩)
    rw [rng_len] at ly
    walk_at "go"
    exact hP _ _ ⟨.tup (fun x mx => (py x mx).1) (by omega), all_tup (by omega) fun x mx => (py x mx).2⟩ R3
  rw [rng_len] at ll
  walk_at "go"
  refine draw m _ _ _ h1 (by omega) R4 fun f S5 pf R5 => ?_
  walk_at "go"
  have ec : stampsOk m m (.tup cs) = true := all_tup (by omega) fun x mx => (pc x mx).2
  have ek : rowsOk 2 m (.tup ks) = true := all_tup (by omega) fun x mx => (pk x mx).2
  have ej : rowsOk m m (.tup js) = true := all_tup (by omega) fun x mx => (pj x mx).2
  have el : looksOk m (.tup ls) = true := all_tup (by omega) fun x mx => (pl x mx).2
  have dc : Dat (.tup cs) := .tup (fun x mx => (pc x mx).1) (by omega)
  have dk : Dat (.tup ks) := .tup (fun x mx => (pk x mx).1) (by omega)
  have dj : Dat (.tup js) := .tup (fun x mx => (pj x mx).1) (by omega)
  have dl : Dat (.tup ls) := .tup (fun x mx => (pl x mx).1) (by omega)
  have el2 : (cs.length : Int) = m := by omega
  have wr : ∀ l, (isN l || looksOk m l) = true → wrongD f (.tup cs) (.tup ks) (.tup js) l = none := fun l hl => by
    show wrongM cs.length f (.tup cs) (.tup ks) (.tup js) l = none
    rw [el2]
    unfold wrongM
    simp [h1, h4, ec, pf.2, ek, ej, hl]
  cases b with
  | true =>
    walk_at "go"
    exact h _ _ _ _ _ _ (wr _ (by rw [el, Bool.or_true])) pf.1 dc dk dj dl R5.1 R5.2
  | false =>
    walk_at "go"
    exact h _ _ _ _ _ _ (wr _ rfl) pf.1 dc dk dj .non R5.1 R5.2
end
open PySem PySem.Spec PyProof.Rows L2 Dy

section
variable {cBook cBad cCopy : Addr} {P : Program} {w : World} {K : PySem.W.Frag} {mg : Str → Option Value} {base : Heap}
/-- data at most n deep, of lengths at most B -/
def Datk (B : Nat) : Nat → D → Prop
  | _, .non => True
  | _, .bl _ => True
  | _, .int _ => True
  | _, .str _ => True
  | _, .dic ks xs => ks = [] ∧ xs = []
  | n + 1, .tup xs => xs.length ≤ B ∧ ∀ x ∈ xs, Datk B n x
  | n + 1, .lst xs => xs.length ≤ B ∧ ∀ x ∈ xs, Datk B n x
  | _, _ => False
theorem Datk.mono {B C n m : Nat} {d : D} (hB : B ≤ C) (h : n ≤ m) (k : Datk B n d) : Datk C m d := by
  induction n generalizing m d with
  | zero =>
    cases d with
    | non => cases m <;> trivial
    | bl _ => cases m <;> trivial
    | int _ => cases m <;> trivial
    | str _ => cases m <;> trivial
    | dic _ _ => cases m <;> exact k
    | _ => exact k.elim
  | succ n ih =>
    cases m with
    | zero => omega
    | succ m =>
      cases d with
      | non => trivial
      | bl _ => trivial
      | int _ => trivial
      | str _ => trivial
      | dic _ _ => exact k
      | tup xs => exact ⟨Nat.le_trans k.1 hB, fun x mx => ih (by omega) (k.2 x mx)⟩
      | lst xs => exact ⟨Nat.le_trans k.1 hB, fun x mx => ih (by omega) (k.2 x mx)⟩
      | _ => exact k.elim
theorem Datk.dat {B n : Nat} {d : D} (hB : B ≤ 1000) (k : Datk B n d) : Dat d := by
  induction n generalizing d with
  | zero =>
    cases d with
    | non => exact .non
    | bl _ => exact .bl _
    | int _ => exact .int _
    | str _ => exact .str _
    | dic _ _ => obtain ⟨rfl, rfl⟩ := k; exact .dic
    | _ => exact k.elim
  | succ n ih =>
    cases d with
    | non => exact .non
    | bl _ => exact .bl _
    | int _ => exact .int _
    | str _ => exact .str _
    | dic _ _ => obtain ⟨rfl, rfl⟩ := k; exact .dic
    | tup xs => exact .tup (fun x mx => ih (k.2 x mx)) (Nat.le_trans k.1 hB)
    | lst xs => exact .lst (fun x mx => ih (k.2 x mx)) (Nat.le_trans k.1 hB)
    | _ => exact k.elim
theorem Kept.at {N : List Nat} {S S' : Store} {m : Nat} {o : SO} (k : Kept N S S') (hm : m ∉ N) (h : S[m]? = some o) : S'[m]? = some o := (k.2 m hm).trans h
def spDeep : DSp := fun ds S Q E => ds = [] ∧ ∀ d, Datk 1 13 d → Q d S
theorem ok__law_deep (T : Txt K mg cBook cBad cCopy) : Cal P w K mg base "_law_deep" 1 [] spDeep := by
  obtain ⟨f, fd, A, hm, hk, hb⟩ := T.d__law_deep
  refine ⟨f, fd, dfn A sc__law_deep (by intro ds S Q E h; obtain ⟨rfl, _⟩ := h; rfl) (fun cdv A outer s H E hr => ⟨_, (ds_cons (ds_set 0 (fun _ => sc__law_deep.nd) (de_tup da_nil))
    (ds_cons (ds_for (fun _ => bodyHp) (fun _ => rfl) (di_rng1 (by intro _; rfl) (fun _ => T.b_range) (da_cons de_int da_nil)) (dg_name 1 (fun _ => sc__law_deep.nd))
    (ds_one (ds_set 0 (fun _ => sc__law_deep.nd) (de_tup (da_cons (de_var 0) da_nil)))))
    (ds_one (ds_ret (de_var 0))))), fun ds S Q E h => ?_⟩), hm, hk, hb⟩
  obtain ⟨rfl, h⟩ := h
  walk_at "go"
  refine ⟨12, rfl, by decide, by decide, ?_⟩
  refine ⟨fun i ρ S' => S' = S ∧ ∃ d o, ρ = [some d, o] ∧ Datk 1 (i + 1) d, ⟨rfl, _, none, rfl, ⟨by simp, by simp⟩⟩, fun _ _ _ _ _ => trivial, ?_, ?_⟩
  · rintro i x ρ S' hx ⟨rfl, d, o, rfl, hd⟩
    walk_at "go"
    exact ⟨rfl, _, _, rfl, ⟨by simp, by simpa using hd⟩⟩
  · rintro ρ S' ⟨rfl, d, o, rfl, hd⟩
    rw [rng_len] at hd
    walk_at "go"
    exact h d hd
def spB : Nat → DSp
  | 0 => fun _ _ _ _ => False
  | n + 1 => fun ds S Q E => ∃ p d o g ods B, ds = [.ref p, d, .ref o] ∧ PotAt S p g ∧ o ∉ [p, g] ∧ S[o]? = some (.lst ods) ∧ ods ≠ [] ∧ ods.length ≤ 1000 ∧ (∀ x ∈ ods, Datk (B + 1) 14 x) ∧ B ≤ 900 ∧ ∃ m, m ≤ n ∧ Datk B m d ∧
    ∀ d' S', Datk (B + 1) (m + 14) d' → PotAt S' p g → Kept [p, g] S S' → Q d' S'
theorem cal_no {f : Addr} {fd : FuncData} {x : Str} {k : Nat} {ps : List Str} (hm : mg x = some (.ref f)) (hk : PySem.W.keepIn K (.ref f) = true) (hb : Binds K fd ps []) : Cal P w K mg base x k ps (fun _ _ _ _ => False) := by
  refine ⟨f, fd, ⟨fun vs H Q E h => ?_, fun A outer s H args us vs Q E hr e0 hbb r h => ?_⟩, hm, hk, hb⟩
  · obtain ⟨_, _, _, _, _, _, _, h, _⟩ := h
    exact h.elim
  · obtain ⟨_, _, _, _, _, _, _, h, _⟩ := h
    exact h.elim
theorem ok__law_bent (T : Txt K mg cBook cBad cCopy) (c__law_draw : Cal P w K mg base "_law_draw" 1 ["pot", "many"] spDraw) (c__law_any : Cal P w K mg base "_law_any" 2 ["pot", "items"] spAny) (c__law_bent : Cal P w K mg base "_law_bent" (n + 2) ["hand", "thing", "odd"] (spB n)) : Cal P w K mg base "_law_bent" (n + 3) ["hand", "thing", "odd"] (spB (n + 1)) := by
  obtain ⟨f, fd, A, hm, hk, hb⟩ := T.d__law_bent
  refine ⟨f, fd, dfn A sc__law_bent (by intro ds S Q E h; obtain ⟨_, _, _, _, _, _, rfl, _⟩ := h; rfl) (fun cdv A outer s H E hr => ⟨_, (ds_cons (ds_if (DW.dt (dw_or (dt_not (dt_val (dc_isi (T := "tuple") (by decide) (by decide) (fun _ => T.b_isinstance) (da_cons (de_var 1) (da_cons (de_bltn (by intro _; rfl) (fun _ => T.b_tuple) bt_tuple (d := .ty "tuple") (v := .ty "tuple") rfl rfl) da_nil))))) (dw_or (dt_cmp (oq_eq fun _ => hr) lk_eq (dc_len (fun _ => T.b_len) (da_cons (de_var 1) da_nil)) de_int (nomark _)) (dw_or1 (dt_cmp (oq_eq fun _ => hr) lk_eq (de_callC (fun _ => c__law_draw) (fun _ => hr) (by omega) (fun _ => bodyTk) (da_cons (de_var 0) (da_cons de_int da_nil))) de_int (nomark _))))))
    (ds_one (ds_ret (de_callC (fun _ => c__law_any) (fun _ => hr) (by omega) (fun _ => bodyTk) (da_cons (de_var 0) (da_cons (de_var 2) da_nil)))))
    ds_nil)
    (ds_cons (ds_set 3 (fun _ => sc__law_bent.nd) (de_callC (fun _ => c__law_draw) (fun _ => hr) (by omega) (fun _ => bodyTk) (da_cons (de_var 0) (da_cons (dc_len (fun _ => T.b_len) (da_cons (de_var 1) da_nil)) da_nil))))
    (ds_cons (ds_set 4 (fun _ => sc__law_bent.nd) (de_callC (fun _ => c__law_draw) (fun _ => hr) (by omega) (fun _ => bodyTk) (da_cons (de_var 0) (da_cons de_int da_nil))))
    (ds_cons (ds_if (dt_cmp (oq_eq fun _ => hr) lk_eq (de_var 4) de_int (nomark _))
    (ds_one (ds_ret (de_add (de_slT (de_var 1) do_none (do_some (de_var 3))) (de_slT (de_var 1) (do_some (de_add (de_var 3) de_int)) do_none))))
    ds_nil)
    (ds_cons (ds_if (dt_cmp (oq_eq fun _ => hr) lk_eq (de_var 4) de_int (nomark _))
    (ds_one (ds_ret (de_add (de_var 1) (de_slT (de_var 1) do_none (do_some de_int)))))
    ds_nil)
    (ds_cons (ds_if (dt_cmp (oq_eq fun _ => hr) lk_eq (de_var 4) de_int (nomark _))
    (ds_one (ds_ret (dc_list (fun _ => T.b_list) (da_cons (de_var 1) da_nil))))
    ds_nil)
    (ds_one (ds_ret (de_add (de_add (de_slT (de_var 1) do_none (do_some (de_var 3))) (de_tup (da_cons (de_callC (fun _ => c__law_bent) (fun _ => hr) (by omega) (fun _ => bodyTk) (da_cons (de_var 0) (da_cons (de_at (de_var 1) (de_var 3)) (da_cons (de_var 2) da_nil)))) da_nil))) (de_slT (de_var 1) (do_some (de_add (de_var 3) de_int)) do_none)))))))))), fun ds S Q E h => ?_⟩), hm, hk, hb⟩
  obtain ⟨p, d, o, g, ods, B, rfl, hp, ho, hS, hne, hz, hod, hB, m, hmn, hd, h⟩ := h
  have pd := (hd.dat (by omega)).plain
  have any : ∀ S', PotAt S' p g → Kept [p, g] S S' → spAny [.ref p, .ref o] S' Q E := fun S' hp' kp =>
    ⟨p, g, .ref o, ods, rfl, hp', fun S2 k2 => sq_ref ((kp.trans k2).at ho hS), hne, small (by omega), fun x S2 mx hp2 k2 => h x S2 ((hod x mx).mono (Nat.le_refl _) (by omega)) hp2 (kp.trans k2)⟩
  have draw : ∀ (k : Int) (S' : Store) (Pq : QD) (E : XQ), 1 ≤ k → k ≤ 1000 → PotAt S' p g → Kept [p, g] S S' → (∀ r S2, 0 ≤ r → r < k → PotAt S2 p g → Kept [p, g] S S2 → Pq (.int r) S2) → spDraw [.ref p, .int k] S' Pq E := fun k S' Pq E k1 k2 hp' kp hP =>
    ⟨p, g, k, rfl, hp', by omega, log_int (by omega) k2, fun r S2 r0 r1 hp2 k2 => hP r S2 r0 r1 hp2 (kp.trans k2)⟩
  walk_at "go"
  cases d with
  | tup xs =>
    cases m with
    | zero => exact hd.elim
    | succ m =>
      obtain ⟨n, rfl⟩ : ∃ n', n = n' + 1 := ⟨n - 1, by omega⟩
      have hl : xs.length ≤ B := hd.1
      walk_at "go"
      rw [Bool.false_xor]
      refine ifD (fun hx => ?_) (fun hx => ?_)
      · walk_at "go"
        exact any S hp .refl
      · walk_at "go"
        have hpos : 0 < xs.length := by
          rcases Nat.eq_zero_or_pos xs.length with e | e
          · exact absurd (by rw [e]; rfl) hx
          · exact e
        refine draw 6 S _ _ (by decide) (by decide) hp .refl fun r S1 r0 r1 hp1 k1 => ?_
        walk_at "go"
        rw [Bool.false_xor]
        refine ifD (fun hr0 => ?_) (fun hr0 => ?_)
        · walk_at "go"
          exact any S1 hp1 k1
        · walk_at "go"
          refine draw xs.length S1 _ _ (by omega) (by omega) hp1 k1 fun at_ S2 a0 a1 hp2 k2 => ?_
          walk_at "go"
          refine draw 8 S2 _ _ (by decide) (by decide) hp2 k2 fun kind S3 c0 c1 hp3 k3 => ?_
          obtain ⟨a, rfl⟩ := Int.eq_ofNat_of_zero_le a0
          have ha : a < xs.length := by omega
          have tk : Dy.cutD xs none (some (a : Int)) = xs.take a := by rw [cut_take (by omega)]; rfl
          have dr : Dy.cutD xs (some ((a : Int) + 1)) none = xs.drop (a + 1) := by rw [cut_drop (by omega)]; congr 1
          have tk1 : Dy.cutD xs none (some 1) = xs.take 1 := by rw [cut_take (by decide)]; rfl
          have sub : ∀ ys : List D, ys.length ≤ B + 1 → (∀ y ∈ ys, y ∈ xs) → Datk (B + 1) (m + 1 + 14) (.tup ys) := fun ys hz hy => ⟨hz, fun y my => (hd.2 y (hy y my)).mono (by omega) (by omega)⟩
          walk_at "go"
          rw [Bool.false_xor]
          refine ifD (fun hk => ?_) (fun hk => ?_)
          · walk_at "go"
            rw [tk, dr]
            refine o_addT (small (by simp; omega)) ?_
            refine h _ S3 (sub _ (by simp; omega) fun y my => ?_) hp3 k3
            rcases List.mem_append.mp my with my | my
            · exact List.mem_of_mem_take my
            · exact List.mem_of_mem_drop my
          walk_at "go"
          rw [Bool.false_xor]
          refine ifD (fun hk => ?_) (fun hk => ?_)
          · walk_at "go"
            rw [tk1]
            refine o_addT (small (by simp; omega)) ?_
            refine h _ S3 (sub _ (by simp; omega) fun y my => ?_) hp3 k3
            rcases List.mem_append.mp my with my | my
            · exact my
            · exact List.mem_of_mem_take my
          walk_at "go"
          rw [Bool.false_xor]
          refine ifD (fun hk => ?_) (fun hk => ?_)
          · walk_at "go"
            exact h _ S3 ⟨by omega, fun y my => (hd.2 y my).mono (by omega) (by omega)⟩ hp3 k3
          walk_at "go"
          rw [tk]
          refine o_ix rfl (by rw [atN, List.getElem?_eq_getElem ha]) ?_
          walk_at "go"
          refine ⟨p, xs[a], o, g, ods, B, rfl, hp3, ho, k3.at ho hS, hne, hz, hod, hB, m, by omega, hd.2 _ (List.getElem_mem ha), fun d' S4 hd' hp4 k4 => ?_⟩
          walk_at "go"
          refine o_addT (small (by simp; omega)) ?_
          walk_at "go"
          rw [dr]
          refine o_addT (small (by simp; omega)) ?_
          refine h _ S4 ⟨by simp; omega, fun y my => ?_⟩ hp4 (k3.trans k4)
          rcases List.mem_append.mp my with my | my
          · rcases List.mem_append.mp my with my | my
            · exact (hd.2 y (List.mem_of_mem_take my)).mono (by omega) (by omega)
            · rw [List.mem_singleton.mp my]; exact hd'.mono (by omega) (by omega)
          · exact (hd.2 y (List.mem_of_mem_drop my)).mono (by omega) (by omega)
  | _ => first | (walk_at "go"; exact any S hp .refl) | cases pd
theorem ok_bent (T : Txt K mg cBook cBad cCopy) (c1 : Cal P w K mg base "_law_draw" 1 ["pot", "many"] spDraw) (c2 : Cal P w K mg base "_law_any" 2 ["pot", "items"] spAny) : ∀ n, Cal P w K mg base "_law_bent" (n + 2) ["hand", "thing", "odd"] (spB n)
  | 0 => by
    obtain ⟨f, fd, A, hm, hk, hb⟩ := T.d__law_bent
    exact cal_no hm hk hb
  | n + 1 => ok__law_bent T c1 c2 (ok_bent T c1 c2 n)
end
open PySem PySem.Spec PyProof.Rows L2 Dy

section
variable {cBook cBad cCopy : Addr} {P : Program} {w : World} {K : PySem.W.Frag} {mg : Str → Option Value} {base : Heap}
theorem getlt {S : Store} {n : Nat} {o : SO} (h : S[n]? = some o) : n < S.length := (List.getElem?_eq_some_iff.mp h).1
theorem PotAt.grown {S S' : Store} {n g : Nat} (h : PotAt S n g) (k : Grown S S') : PotAt S' n g := by
  obtain ⟨ne, gs, sm, turn, sum, h1, h2, h3⟩ := h
  exact ⟨ne, gs, sm, turn, sum, (k.2 n (getlt h1)).trans h1, (k.2 g (getlt h2)).trans h2, h3⟩
theorem PotAt.push {S : Store} {n g : Nat} {o : SO} (h : PotAt S n g) : PotAt (S ++ [o]) n g := h.grown ⟨by simp, fun m hm => List.getElem?_append_left hm⟩
theorem tk_stamps {n m : Int} {B : Nat} {d : D} (h : stampsOk n m d = true) (hn : n ≤ B) : Datk B 1 d := by
  unfold stampsOk at h
  rw [Bool.and_eq_true] at h
  cases d with
  | tup xs =>
    have h1 : (xs.length : Int) = n := of_decide_eq_true h.1
    refine ⟨by omega, fun x mx => ?_⟩
    have hx : btw 0 (m - 1) x = true := List.all_eq_true.mp h.2 x mx
    cases x <;> first | trivial | cases hx
  | _ => cases h.1
theorem tk_rows {n m : Int} {B : Nat} {d : D} (h : rowsOk n m d = true) (hn : n ≤ B) (hm : m ≤ B) : Datk B 2 d := by
  unfold rowsOk at h
  rw [Bool.and_eq_true] at h
  cases d with
  | tup xs =>
    have h1 : (xs.length : Int) = m := of_decide_eq_true h.1
    exact ⟨by omega, fun x mx => tk_stamps (List.all_eq_true.mp h.2 x mx) hn⟩
  | _ => cases h.1
theorem tk_words {n : Int} {B : Nat} {d : D} (h : wordsOk n d = true) (hn : n ≤ B) : Datk B 1 d := by
  unfold wordsOk at h
  rw [Bool.and_eq_true] at h
  cases d with
  | tup xs =>
    have h1 : (xs.length : Int) = n := of_decide_eq_true h.1
    refine ⟨by omega, fun x mx => ?_⟩
    have hx : inS words x = true := List.all_eq_true.mp h.2 x mx
    cases x <;> first | trivial | cases hx
  | _ => cases h.1
theorem tk_looks {n : Int} {B : Nat} {d : D} (h : looksOk n d = true) (hn : n ≤ B) : Datk B 2 d := by
  unfold looksOk at h
  rw [Bool.and_eq_true] at h
  cases d with
  | tup xs =>
    have h1 : (xs.length : Int) = n := of_decide_eq_true h.1
    exact ⟨by omega, fun x mx => tk_words (List.all_eq_true.mp h.2 x mx) hn⟩
  | _ => cases h.1
theorem tk_book {f c k j l : D} (h : wrongD f c k j l = none) : ∀ x ∈ [f, c, k, j, l], Datk 400 2 x := by
  cases c with
  | tup cs =>
    have h : wrongM cs.length f (.tup cs) k j l = none := h
    unfold wrongM at h
    split at h
    · rename_i h1
      rw [Bool.and_eq_true, Bool.and_eq_true] at h1
      have hz : (cs.length : Int) ≤ 400 := of_decide_eq_true h1.1.2
      split at h
      · rename_i h2
        split at h
        · rename_i h3
          split at h
          · rename_i h4
            split at h
            · rename_i h5
              have b1 : Datk 400 2 f := by cases f <;> first | trivial | cases h2
              have b2 := (tk_stamps (B := 400) h1.2 (by omega)).mono (Nat.le_refl _) (show 1 ≤ 2 by decide)
              have b3 := tk_rows (B := 400) h3 (by omega) (by omega)
              have b4 := tk_rows (B := 400) h4 (by omega) (by omega)
              have b5 : Datk 400 2 l := by
                rcases (Bool.or_eq_true _ _).mp h5 with h5 | h5
                · cases l <;> first | trivial | cases h5
                · exact tk_looks h5 (by omega)
              intro x mx
              simp only [List.mem_cons, List.not_mem_nil, or_false] at mx
              rcases mx with rfl | rfl | rfl | rfl | rfl
              · exact b1
              · exact b2
              · exact b3
              · exact b4
              · exact b5
            · cases h
          · cases h
        · cases h
      · cases h
    · cases h
  | _ => cases h
theorem all_rep {f : D → Bool} {x : D} {m : Nat} (h : f x = true) : (List.replicate m x).all f = true := List.all_eq_true.mpr fun y my => by rw [List.eq_of_mem_replicate my]; exact h
theorem wrong_great {m : Nat} (h1 : 1 ≤ m) : wrongD (.int 0) (zeros m) (.tup (List.replicate m (.tup [.int 0, .int 0]))) (.tup (List.replicate m (zeros m))) .non = (if m ≤ 400 then none else some ("changes" : Str) : Option Str) := by
  have b : btw 0 ((m : Int) - 1) (.int 0) = true := by
    show (decide ((0 : Int) ≤ 0) && decide ((0 : Int) ≤ m - 1)) = true
    rw [decide_eq_true (by omega : (0 : Int) ≤ m - 1)]; rfl
  have s : stampsOk m m (zeros m) = true := all_tup (by simp) fun x mx => by rw [List.eq_of_mem_replicate mx]; exact b
  have s2 : stampsOk 2 m (.tup [.int 0, .int 0]) = true := all_tup rfl (by simp [b])
  have r1 : rowsOk 2 m (.tup (List.replicate m (.tup [.int 0, .int 0]))) = true := all_tup (by simp) fun x mx => by rw [List.eq_of_mem_replicate mx]; exact s2
  have r2 : rowsOk m m (.tup (List.replicate m (zeros m))) = true := all_tup (by simp) fun x mx => by rw [List.eq_of_mem_replicate mx]; exact s
  show wrongM (List.replicate m (D.int 0)).length _ (zeros m) _ _ _ = _
  rw [List.length_replicate]
  unfold wrongM
  by_cases h : m ≤ 400
  · simp [h1, h, s, b, r1, r2, isN]
    omega
  · simp [h1, h, s, b, r1, r2, isN]
    omega
theorem five {ys : List D} (h : ys.length = 5) : ∃ f c k j l, ys = [f, c, k, j, l] := by
  match ys, h with
  | [f, c, k, j, l], _ => exact ⟨f, c, k, j, l, rfl⟩
theorem get_push {S : Store} {o : SO} : (S ++ [o])[S.length]? = some o := by simp
theorem PotAt.of {S S' : Store} {n g : Nat} (h : PotAt S n g) (e1 : S'[n]? = S[n]?) (e2 : S'[g]? = S[g]?) : PotAt S' n g := by
  obtain ⟨ne, gs, sm, turn, sum, h1, h2, h3⟩ := h
  exact ⟨ne, gs, sm, turn, sum, e1.trans h1, e2.trans h2, h3⟩
theorem PotAt.lt {S : Store} {n g : Nat} (h : PotAt S n g) : n < S.length ∧ g < S.length := by
  obtain ⟨ne, gs, sm, turn, sum, h1, h2, h3⟩ := h
  exact ⟨getlt h1, getlt h2⟩
theorem put5 {xs : List D} {a : Nat} {d : D} (h : xs.length = 5) (ha : a < 5) : (xs.take a ++ [d] ++ xs.drop (a + 1)).length = 5 := by simp; omega
theorem put_all {xs : List D} {a : Nat} {d : D} {p : D → Prop} (h : ∀ x ∈ xs, p x) (hd : p d) : ∀ y ∈ xs.take a ++ [d] ++ xs.drop (a + 1), p y := fun y my => by
  rcases List.mem_append.mp my with my | my
  · rcases List.mem_append.mp my with my | my
    · exact h y (List.mem_of_mem_take my)
    · rw [List.mem_singleton.mp my]; exact hd
  · exact h y (List.mem_of_mem_drop my)
theorem cutA {xs : List D} {a : Nat} : Dy.cutD xs none (some (a : Int)) = xs.take a := by rw [cut_take (by omega)]; rfl
theorem cutB {xs : List D} {a : Nat} : Dy.cutD xs (some ((a : Int) + 1)) none = xs.drop (a + 1) := by rw [cut_drop (by omega)]; congr 1
theorem okF_law (T : Txt K mg cBook cBad cCopy) (c__law_pot : Cal P w K mg base "_law_pot" 1 ["script"] spPot) (c__law_draw : Cal P w K mg base "_law_draw" 1 ["pot", "many"] spDraw) (c__law_rows : Cal P w K mg base "_law_rows" 2 ["hand", "many", "looks"] spRowsL) (c__law_told : Cal P w K mg base "_law_told" 8 ["rows"] spTold) (c__law_deep : Cal P w K mg base "_law_deep" 1 [] spDeep) (c__law_bent : Cal P w K mg base "_law_bent" 19 ["hand", "thing", "odd"] (spB 17)) (c__law_due : Cal P w K mg base "_law_due" 2 ["rows"] spDue) (c__law_great : Cal P w K mg base "_law_great" 1 ["many"] spGreat) {f : Addr} {fd : FuncData} (A : Fun K "law" "law" s_law f fd) : FnOk P w K mg base (L2.CX P w) 60 f fd ["script"] (liftSp K spLaw) := by
  refine dfn A sc_law (by intro ds S Q E h; obtain ⟨_, rfl, _⟩ := h; rfl) (fun cdv A outer s H E hr => ⟨_, (ds_cons (ds_set 1 (fun _ => sc_law.nd) (de_callC (fun _ => c__law_pot) (fun _ => hr) (by omega) (fun _ => bodyTk) (da_cons (de_var 0) da_nil)))
    (ds_cons (ds_for (fun _ => bodyHp) (fun _ => rfl) (di_rng1 (by intro _; rfl) (fun _ => T.b_range) (da_cons de_int da_nil)) (dg_name 2 (fun _ => sc_law.nd))
    (ds_cons (ds_set 3 (fun _ => sc_law.nd) (de_add de_int (de_callC (fun _ => c__law_draw) (fun _ => hr) (by omega) (fun _ => bodyTk) (da_cons (de_var 1) (da_cons de_int da_nil)))))
    (ds_cons (ds_set 4 (fun _ => sc_law.nd) (de_callC (fun _ => c__law_rows) (fun _ => hr) (by omega) (fun _ => bodyTk) (da_cons (de_var 1) (da_cons (de_var 3) (da_cons (de_cmp (fun _ => op_gt) lk_gt (de_callC (fun _ => c__law_draw) (fun _ => hr) (by omega) (fun _ => bodyTk) (da_cons (de_var 1) (da_cons de_int da_nil))) de_int (nomark _)) da_nil)))))
    (ds_cons (ds_if (dt_cmp (oq_ne fun _ => hr) lk_ne (de_callC (fun _ => c__law_told) (fun _ => hr) (by omega) (fun _ => bodyTk) (da_cons (de_var 4) da_nil)) de_str (nomark _))
    (ds_one (ds_ret de_bl))
    ds_nil)
    (ds_cons (ds_set 5 (fun _ => sc_law.nd) (de_new (da_cons de_non (da_cons de_bl (da_cons de_bl (da_cons (de_neg de_int) (da_cons (de_var 3) (da_cons (de_sub (de_var 3) de_int) (da_cons de_int (da_cons de_str (da_cons de_str (da_cons de_str (da_cons (de_tup da_nil) (da_cons (de_tup (da_cons de_int (da_cons de_int da_nil))) (da_cons (de_lst da_nil) (da_cons de_dnil (da_cons (de_pow de_int de_int) da_nil)))))))))))))))))
    (ds_cons (ds_expr (de_append (de_var 5) (da_cons (de_callC0 (fun _ => c__law_deep) (fun _ => hr) (by omega) (fun _ => bodyTk)) da_nil)))
    (ds_one (ds_for (fun _ => bodyHp) (fun _ => rfl) (di_rng1 (by intro _; rfl) (fun _ => T.b_range) (da_cons de_int da_nil)) (dg_name 6 (fun _ => sc_law.nd))
    (ds_cons (ds_set 7 (fun _ => sc_law.nd) (de_callC (fun _ => c__law_draw) (fun _ => hr) (by omega) (fun _ => bodyTk) (da_cons (de_var 1) (da_cons de_int da_nil))))
    (ds_cons (ds_set 8 (fun _ => sc_law.nd) (de_add (de_add (de_slT (de_var 4) do_none (do_some (de_var 7))) (de_tup (da_cons (de_callC (fun _ => c__law_bent) (fun _ => hr) (by omega) (fun _ => bodyTk) (da_cons (de_var 1) (da_cons (de_at (de_var 4) (de_var 7)) (da_cons (de_var 5) da_nil)))) da_nil))) (de_slT (de_var 4) (do_some (de_add (de_var 7) de_int)) do_none)))
    (ds_cons (ds_if (dt_cmp (oq_eq fun _ => hr) lk_eq (de_callC (fun _ => c__law_draw) (fun _ => hr) (by omega) (fun _ => bodyTk) (da_cons (de_var 1) (da_cons de_int da_nil))) de_int (nomark _))
    (ds_cons (ds_set 7 (fun _ => sc_law.nd) (de_callC (fun _ => c__law_draw) (fun _ => hr) (by omega) (fun _ => bodyTk) (da_cons (de_var 1) (da_cons de_int da_nil))))
    (ds_one (ds_set 8 (fun _ => sc_law.nd) (de_add (de_add (de_slT (de_var 8) do_none (do_some (de_var 7))) (de_tup (da_cons (de_callC (fun _ => c__law_bent) (fun _ => hr) (by omega) (fun _ => bodyTk) (da_cons (de_var 1) (da_cons (de_at (de_var 8) (de_var 7)) (da_cons (de_var 5) da_nil)))) da_nil))) (de_slT (de_var 8) (do_some (de_add (de_var 7) de_int)) do_none)))))
    ds_nil)
    (ds_one (ds_if (dt_cmp (oq_ne fun _ => hr) lk_ne (de_callC (fun _ => c__law_told) (fun _ => hr) (by omega) (fun _ => bodyTk) (da_cons (de_var 8) da_nil)) (de_callC (fun _ => c__law_due) (fun _ => hr) (by omega) (fun _ => bodyTk) (da_cons (de_var 8) da_nil)) (nomark _))
    (ds_one (ds_ret de_bl))
    ds_nil)))))))))))))
    (ds_cons (ds_if (dt_cmp (oq_ne fun _ => hr) lk_ne (de_callC (fun _ => c__law_told) (fun _ => hr) (by omega) (fun _ => bodyTk) (da_cons (de_tup (da_cons de_int (da_cons (de_tup da_nil) (da_cons (de_tup da_nil) (da_cons (de_tup da_nil) (da_cons (de_tup da_nil) da_nil)))))) da_nil)) de_str (nomark _))
    (ds_one (ds_ret de_bl))
    ds_nil)
    (ds_cons (ds_set 3 (fun _ => sc_law.nd) (de_add de_int (de_callC (fun _ => c__law_draw) (fun _ => hr) (by omega) (fun _ => bodyTk) (da_cons (de_var 1) (da_cons de_int da_nil)))))
    (ds_one (ds_ret (de_or (de_cmp (fun _ => op_gt) lk_gt (de_callC (fun _ => c__law_draw) (fun _ => hr) (by omega) (fun _ => bodyTk) (da_cons (de_var 1) (da_cons de_int da_nil))) de_int (nomark _)) (de_one (de_cmp (oq_eq fun _ => hr) lk_eq (de_callC (fun _ => c__law_told) (fun _ => hr) (by omega) (fun _ => bodyTk) (da_cons (de_callC (fun _ => c__law_great) (fun _ => hr) (by omega) (fun _ => bodyTk) (da_cons (de_var 3) da_nil)) da_nil)) (de_at (de_lst (da_cons de_str (da_cons de_str da_nil))) (de_sub (de_var 3) de_int)) (nomark _)))))))))), fun ds S Q E h => ?_⟩)
  obtain ⟨ns, rfl, rfl, h⟩ := h
  walk_at "go"
  refine ⟨ns, rfl, fun S0 n g hp0 _ _ _ => ?_⟩
  have draw : ∀ (k : Int) (S' : Store) (Pq : QD) (E : XQ), 1 ≤ k → k ≤ 1000 → PotAt S' n g → (∀ r S2, 0 ≤ r → r < k → PotAt S2 n g → Kept [n, g] S' S2 → Pq (.int r) S2) → spDraw [.ref n, .int k] S' Pq E := fun k S' Pq E k1 k2 hp' hP =>
    ⟨n, g, k, rfl, hp', by omega, log_int (by omega) k2, fun r S2 r0 r1 hp2 k2 => hP r S2 r0 r1 hp2 k2⟩
  walk_at "go"
  refine ⟨10, rfl, by decide, by decide, ?_⟩
  refine ⟨fun i ρ S' => PotAt S' n g ∧ ∃ o2 o3 o4 o5 o6 o7 o8, ρ = [some (.frz (ns.map .int)), some (.ref n), o2, o3, o4, o5, o6, o7, o8], ⟨hp0, none, none, none, none, none, none, none, rfl⟩, fun _ _ _ _ _ => trivial, ?_, ?_⟩
  · rintro i x ρ S1 hx ⟨hp1, o2, o3, o4, o5, o6, o7, o8, rfl⟩
    walk_at "go"
    refine draw 6 S1 _ _ (by decide) (by decide) hp1 fun r S2 r0 r1 hp2 _ => ?_
    walk_at "go"
    refine draw 3 S2 _ _ (by decide) (by decide) hp2 fun q S3 q0 q1 hp3 _ => ?_
    walk_at "go"
    refine ⟨n, g, _, _, rfl, hp3, by omega, by omega, fun f c k j l S4 hw df dc dk dj dl hp4 _ => ?_⟩
    walk_at "go"
    refine ⟨f, c, k, j, l, rfl, df, dc, dk, dj, dl, fun S5 g5 => ?_⟩
    have hp5 := hp4.grown g5
    rw [hw]
    walk_at "go"
    have hod : n < S5.length ∧ g < S5.length := hp5.lt
    generalize hits : ([D.non, D.bl true, D.bl false, D.int (-1), D.int (1 + r), D.int (1 + r - 1), D.int 0, D.str "same", D.str "newest", D.str "", D.tup [], D.tup [D.int 0, D.int 0], D.lst [], D.dic [] [], D.int (10 ^ Int.toNat 30)] : List D) = its
    have hil : its.length = 15 := by rw [← hits]; rfl
    have di : ∀ x ∈ its, Datk 401 14 x := fun x mx => by
      rw [← hits] at mx
      simp only [List.mem_cons, List.not_mem_nil, or_false] at mx
      rcases mx with rfl | rfl | rfl | rfl | rfl | rfl | rfl | rfl | rfl | rfl | rfl | rfl | rfl | rfl | rfl <;> first
        | trivial
        | exact ⟨rfl, rfl⟩
        | (refine ⟨by simp, fun y my => ?_⟩; cases my; done)
        | (refine ⟨by simp, fun y my => ?_⟩; simp only [List.mem_cons, List.not_mem_nil, or_false, or_self] at my; subst my; trivial)
    refine o_lsAnd (ls_ref get_push) ?_
    walk_at "go"
    refine ⟨rfl, fun dp hdp => ?_⟩
    walk_at "go"
    refine o_app get_push (Nat.lt_of_lt_of_le (by omega : its.length < 100) (small (by decide))) fun S7 l7 e7 m7 => ?_
    walk_at "go"
    generalize hodn : S5.length = od at *
    have hno : od ∉ [n, g] := by simp; omega
    have hp6 : PotAt (S5 ++ [SO.lst its]) n g := hp5.push
    have hp7 : PotAt S7 n g := hp6.of (m7 n (by omega)) (m7 g (by omega))
    have dod : ∀ x ∈ its ++ [dp], Datk 401 14 x := fun x mx => by
      rcases List.mem_append.mp mx with mx | mx
      · exact di x mx
      · rw [List.mem_singleton.mp mx]; exact hdp.mono (by decide) (by decide)
    have lod : (its ++ [dp]).length = 16 := by simp [hil]
    generalize its ++ [dp] = ods at e7 dod lod
    have nod : ods ≠ [] := fun e => by rw [e] at lod; cases lod
    refine ⟨2, rfl, by decide, by decide, ?_⟩
    refine ⟨fun i ρ S' => PotAt S' n g ∧ S'[od]? = some (.lst ods) ∧ ∃ p6 p7 p8, ρ = [some (.frz (ns.map .int)), some (.ref n), some x, some (.int (1 + r)), some (.tup [f, c, k, j, l]), some (.ref od), p6, p7, p8], ⟨hp7, e7, o6, o7, o8, rfl⟩, fun _ _ _ _ _ => trivial, ?_, ?_⟩
    · rintro i x2 ρ S8 hx2 ⟨hp8, e8, p6, p7, p8, rfl⟩
      walk_at "go"
      refine draw 5 S8 _ _ (by decide) (by decide) hp8 fun at_ S9 a0 a1 hp9 k9 => ?_
      have e9 := k9.at hno e8
      obtain ⟨a, rfl⟩ := Int.eq_ofNat_of_zero_le a0
      have ha : a < 5 := by omega
      walk_at "go"
      have ga : ([f, c, k, j, l] : List D)[a]? = some ([f, c, k, j, l][a]) := List.getElem?_eq_getElem ha
      refine o_ix rfl (by rw [atN]; exact ga) ?_
      walk_at "go"
      refine ⟨n, [f, c, k, j, l][a], od, g, ods, 400, rfl, hp9, hno, e9, nod, by omega, dod, by decide, 2, by decide, tk_book hw _ (List.getElem_mem ha), fun d1 S10 hd1 hp10 k10 => ?_⟩
      have e10 := k10.at hno e9
      walk_at "go"
      rw [cutA]
      refine o_addT (small (by simp; omega)) ?_
      walk_at "go"
      rw [cutB]
      refine o_addT (small (by simp; omega)) ?_
      have hlen : (([f, c, k, j, l] : List D).take a ++ [d1] ++ ([f, c, k, j, l] : List D).drop (a + 1)).length = 5 := put5 rfl ha
      have hall : ∀ y ∈ ([f, c, k, j, l] : List D).take a ++ [d1] ++ ([f, c, k, j, l] : List D).drop (a + 1), Datk 401 16 y := put_all (fun y my => (tk_book hw y my).mono (by decide) (by decide)) hd1
      generalize ([f, c, k, j, l] : List D).take a ++ [d1] ++ ([f, c, k, j, l] : List D).drop (a + 1) = ys at hlen hall ⊢
      walk_at "go"
      refine draw 3 S10 _ _ (by decide) (by decide) hp10 fun q3 S11 b0 b1 hp11 k11 => ?_
      have e11 := k11.at hno e10
      walk_at "go"
      rw [Bool.false_xor]
      refine ifD (fun hq => ?_) (fun hq => ?_)
      · walk_at "go"
        refine draw 5 S11 _ _ (by decide) (by decide) hp11 fun at_ S12 a0 a1 hp12 k12 => ?_
        have e12 := k12.at hno e11
        obtain ⟨b, rfl⟩ := Int.eq_ofNat_of_zero_le a0
        have hb5 : b < 5 := by omega
        have hb6 : b < ys.length := by omega
        walk_at "go"
        have gb : ys[b]? = some (ys[b]) := List.getElem?_eq_getElem hb6
        refine o_ix rfl (by rw [atN]; exact gb) ?_
        walk_at "go"
        refine ⟨n, ys[b], od, g, ods, 401, rfl, hp12, hno, e12, nod, by omega, fun x mx => (dod x mx).mono (by decide) (by decide), by decide, 16, by decide, hall _ (List.getElem_mem hb6), fun d2 S13 hd2 hp13 k13 => ?_⟩
        have e13 := k13.at hno e12
        walk_at "go"
        rw [cutA]
        refine o_addT (small (by simp; omega)) ?_
        walk_at "go"
        rw [cutB]
        refine o_addT (small (by simp; omega)) ?_
        have hlen2 := put5 (d := d2) hlen hb5
        have hall2 : ∀ y ∈ ys.take b ++ [d2] ++ ys.drop (b + 1), Datk 402 30 y := put_all (fun y my => (hall y my).mono (by decide) (by decide)) hd2
        generalize ys.take b ++ [d2] ++ ys.drop (b + 1) = zs at hlen2 hall2 ⊢
        walk_at "go"
        have hlen := hlen2
        have hall := hall2
        have hpy := hp13
        have hoy := e13
        obtain ⟨f', c', k', j', l', hys⟩ := five hlen
        rw [hys] at hall ⊢
        have dd : ∀ y ∈ [f', c', k', j', l'], Dat y := fun y my => (hall y my).dat (by decide)
        walk_at "go"
        refine ⟨f', c', k', j', l', rfl, dd _ (by simp), dd _ (by simp), dd _ (by simp), dd _ (by simp), dd _ (by simp), fun Sz gz => ?_⟩
        walk_at "go"
        refine ⟨f', c', k', j', l', rfl, dd _ (by simp), dd _ (by simp), dd _ (by simp), dd _ (by simp), dd _ (by simp), ?_⟩
        walk_at "go"
        exact ⟨hpy.grown gz, (gz.2 od (getlt hoy)).trans hoy, _, _, _, rfl⟩
      · walk_at "go"
        have hpy := hp11
        have hoy := e11
        obtain ⟨f', c', k', j', l', hys⟩ := five hlen
        rw [hys] at hall ⊢
        have dd : ∀ y ∈ [f', c', k', j', l'], Dat y := fun y my => (hall y my).dat (by decide)
        walk_at "go"
        refine ⟨f', c', k', j', l', rfl, dd _ (by simp), dd _ (by simp), dd _ (by simp), dd _ (by simp), dd _ (by simp), fun Sz gz => ?_⟩
        walk_at "go"
        refine ⟨f', c', k', j', l', rfl, dd _ (by simp), dd _ (by simp), dd _ (by simp), dd _ (by simp), dd _ (by simp), ?_⟩
        walk_at "go"
        exact ⟨hpy.grown gz, (gz.2 od (getlt hoy)).trans hoy, _, _, _, rfl⟩
    · rintro ρ S8 ⟨hp8, e8, p6, p7, p8, rfl⟩
      walk_at "go"
      exact ⟨hp8, _, _, _, _, _, _, _, rfl⟩
  · rintro ρ S1 ⟨hp1, o2, o3, o4, o5, o6, o7, o8, rfl⟩
    walk_at "go"
    refine ⟨.int 0, .tup [], .tup [], .tup [], .tup [], rfl, .int 0, .tup (by simp) (by simp), .tup (by simp) (by simp), .tup (by simp) (by simp), .tup (by simp) (by simp), fun S2 g2 => ?_⟩
    have hp2 := hp1.grown g2
    have ew : wrongD (.int 0) (.tup []) (.tup []) (.tup []) (.tup []) = some "changes" := by
      show wrongM _ _ _ _ _ _ = _
      unfold wrongM
      simp
    rw [ew]
    walk_at "go"
    refine draw 2 S2 _ _ (by decide) (by decide) hp2 fun r S3 r0 r1 hp3 _ => ?_
    walk_at "go"
    refine draw 10 S3 _ _ (by decide) (by decide) hp3 fun q S4 q0 q1 hp4 _ => ?_
    walk_at "go"
    refine ifD (fun hq => ?_) (fun hq => ?_)
    · exact h S4
    · walk_at "go"
      obtain ⟨m, hm⟩ := Int.eq_ofNat_of_zero_le (show 0 ≤ 400 + r by omega)
      rw [hm]
      have hm4 : m = 400 ∨ m = 401 := by omega
      refine ⟨m, rfl, by omega, by omega, ?_⟩
      have hg : ∀ d : D, Dat d → ∀ k : Nat, k ≤ 1000 → Dat (.tup (List.replicate k d)) := fun d hd k hk => .tup (fun x mx => by rw [List.eq_of_mem_replicate mx]; exact hd) (by simp; omega)
      have hz := hg _ (.int 0) m (by omega)
      walk_at "go"
      refine ⟨_, _, _, _, _, rfl, .int 0, hz, hg _ (.tup (by intro x mx; simp at mx; rw [mx]; exact .int 0) (by simp)) m (by omega), hg _ hz m (by omega), .non, fun S5 g5 => ?_⟩
      rw [wrong_great (by omega)]
      walk_at "go"
      rcases hm4 with rfl | rfl
      · refine o_ix (v := .str "let") rfl (by rfl) ?_
        rw [if_pos (by decide)]
        walk_at "go"
        have e : (false ^^ decide (dueS none = "let")) = true := by decide +kernel
        rw [e]
        exact h S5
      · refine o_ix (v := .str "changes") rfl (by rfl) ?_
        rw [if_neg (by decide)]
        walk_at "go"
        have e : (false ^^ decide (dueS (some "changes") = "changes")) = true := by decide +kernel
        rw [e]
        exact h S5
end
open PySem PySem.Spec PyProof.Rows L2 Dy
theorem all_mk {l : PySem.W.OpenLaw} {w : World} {K : PySem.W.Frag} {h : Heap} {mg : Str → Option Value} {fa : Addr} (X : K.In h) (G : h.Ns mainGlobals mg) (hfa : mg "law" = some (.ref fa))
    {od_is_integer an_is_integer : Option Addr} {sl_is_integer : Array (Option Value)} {oc_is_integer kV_is_integer dc_is_integer pm_is_integer cd_is_integer ct_is_integer : Value} {f_is_integer : Addr}
    {od_is_between an_is_between : Option Addr} {sl_is_between : Array (Option Value)} {oc_is_between kV_is_between dc_is_between pm_is_between cd_is_between ct_is_between : Value} {f_is_between : Addr}
    {od_is_tuple_of an_is_tuple_of : Option Addr} {sl_is_tuple_of : Array (Option Value)} {oc_is_tuple_of kV_is_tuple_of dc_is_tuple_of pm_is_tuple_of cd_is_tuple_of ct_is_tuple_of : Value} {f_is_tuple_of : Addr}
    {od_are_stamps an_are_stamps : Option Addr} {sl_are_stamps : Array (Option Value)} {oc_are_stamps kV_are_stamps dc_are_stamps pm_are_stamps cd_are_stamps ct_are_stamps : Value} {f_are_stamps : Addr}
    {od_are_rows an_are_rows : Option Addr} {sl_are_rows : Array (Option Value)} {oc_are_rows kV_are_rows dc_are_rows pm_are_rows cd_are_rows ct_are_rows : Value} {f_are_rows : Addr}
    {od_are_words an_are_words : Option Addr} {sl_are_words : Array (Option Value)} {oc_are_words kV_are_words dc_are_words pm_are_words cd_are_words ct_are_words : Value} {f_are_words : Addr}
    {od_are_looks an_are_looks : Option Addr} {sl_are_looks : Array (Option Value)} {oc_are_looks kV_are_looks dc_are_looks pm_are_looks cd_are_looks ct_are_looks : Value} {f_are_looks : Addr}
    {od_wrong_part an_wrong_part : Option Addr} {sl_wrong_part : Array (Option Value)} {oc_wrong_part kV_wrong_part dc_wrong_part pm_wrong_part cd_wrong_part ct_wrong_part : Value} {f_wrong_part : Addr}
    {od__law_pot an__law_pot : Option Addr} {sl__law_pot : Array (Option Value)} {oc__law_pot kV__law_pot dc__law_pot pm__law_pot cd__law_pot ct__law_pot : Value} {f__law_pot : Addr}
    {od__law_draw an__law_draw : Option Addr} {sl__law_draw : Array (Option Value)} {oc__law_draw kV__law_draw dc__law_draw pm__law_draw cd__law_draw ct__law_draw : Value} {f__law_draw : Addr}
    {od__law_any an__law_any : Option Addr} {sl__law_any : Array (Option Value)} {oc__law_any kV__law_any dc__law_any pm__law_any cd__law_any ct__law_any : Value} {f__law_any : Addr}
    {od__law_deep an__law_deep : Option Addr} {sl__law_deep : Array (Option Value)} {oc__law_deep kV__law_deep dc__law_deep pm__law_deep cd__law_deep ct__law_deep : Value} {f__law_deep : Addr}
    {od__law_rows an__law_rows : Option Addr} {sl__law_rows : Array (Option Value)} {oc__law_rows kV__law_rows dc__law_rows pm__law_rows cd__law_rows ct__law_rows : Value} {f__law_rows : Addr}
    {od__law_are an__law_are : Option Addr} {sl__law_are : Array (Option Value)} {oc__law_are kV__law_are dc__law_are pm__law_are cd__law_are ct__law_are : Value} {f__law_are : Addr}
    {od__law_due an__law_due : Option Addr} {sl__law_due : Array (Option Value)} {oc__law_due kV__law_due dc__law_due pm__law_due cd__law_due ct__law_due : Value} {f__law_due : Addr}
    {od__law_told an__law_told : Option Addr} {sl__law_told : Array (Option Value)} {oc__law_told kV__law_told dc__law_told pm__law_told cd__law_told ct__law_told : Value} {f__law_told : Addr}
    {od__law_bent an__law_bent : Option Addr} {sl__law_bent : Array (Option Value)} {oc__law_bent kV__law_bent dc__law_bent pm__law_bent cd__law_bent ct__law_bent : Value} {f__law_bent : Addr}
    {od__law_great an__law_great : Option Addr} {sl__law_great : Array (Option Value)} {oc__law_great kV__law_great dc__law_great pm__law_great cd__law_great ct__law_great : Value} {f__law_great : Addr}
    {od_law an_law : Option Addr} {sl_law : Array (Option Value)} {oc_law kV_law dc_law pm_law cd_law ct_law : Value} {f_law : Addr}
    {cBook : Addr}
    {cBadBook : Addr}
    {cCopyError : Addr}
    {od_Book___init__ an_Book___init__ : Option Addr} {sl_Book___init__ : Array (Option Value)} {oc_Book___init__ kV_Book___init__ dc_Book___init__ pm_Book___init__ cd_Book___init__ ct_Book___init__ : Value} {f_Book___init__ : Addr}
    {nm_BadBook q_BadBook : Str} {N_BadBook : Addr} {bs_BadBook sub_BadBook : List Value} {sn_BadBook : List Str} {ab_BadBook : Bool} {col_BadBook : Option Bool} {dd_BadBook : Option Addr} {m0_BadBook m1_BadBook m2_BadBook m3_BadBook m5_BadBook : Option Value} {bm_BadBook : List Value}
    {od_BadBook___init__ an_BadBook___init__ : Option Addr} {sl_BadBook___init__ : Array (Option Value)} {oc_BadBook___init__ kV_BadBook___init__ dc_BadBook___init__ pm_BadBook___init__ cd_BadBook___init__ ct_BadBook___init__ : Value} {f_BadBook___init__ : Addr}
    {aW : Addr} {odW : Option Addr} {w1 w2 w3 w4 : Tok} {nW : Nat} {slW : Array (Option Value)} {tM : Tok}
    (z_ValueError : PySem.W.nsIn K mainGlobals "ValueError" = some none)
    (z_abs : PySem.W.nsIn K mainGlobals "abs" = some none)
    (z_all : PySem.W.nsIn K mainGlobals "all" = some none)
    (z_any : PySem.W.nsIn K mainGlobals "any" = some none)
    (z_bool : PySem.W.nsIn K mainGlobals "bool" = some none)
    (z_dict : PySem.W.nsIn K mainGlobals "dict" = some none)
    (z_enumerate : PySem.W.nsIn K mainGlobals "enumerate" = some none)
    (z_int : PySem.W.nsIn K mainGlobals "int" = some none)
    (z_isinstance : PySem.W.nsIn K mainGlobals "isinstance" = some none)
    (z_len : PySem.W.nsIn K mainGlobals "len" = some none)
    (z_list : PySem.W.nsIn K mainGlobals "list" = some none)
    (z_max : PySem.W.nsIn K mainGlobals "max" = some none)
    (z_min : PySem.W.nsIn K mainGlobals "min" = some none)
    (z_range : PySem.W.nsIn K mainGlobals "range" = some none)
    (z_set : PySem.W.nsIn K mainGlobals "set" = some none)
    (z_sorted : PySem.W.nsIn K mainGlobals "sorted" = some none)
    (z_str : PySem.W.nsIn K mainGlobals "str" = some none)
    (z_sum : PySem.W.nsIn K mainGlobals "sum" = some none)
    (z_tuple : PySem.W.nsIn K mainGlobals "tuple" = some none)
    (z_type : PySem.W.nsIn K mainGlobals "type" = some none)
    (a_is_integer : PySem.W.nsIn K mainGlobals "is_integer" = some (some (.ref f_is_integer)))
    (l_is_integer : K.lookup f_is_integer = some ⟨oc_is_integer, od_is_integer, .func (PySem.W.fnOf "is_integer" "is_integer" (defArgs s_is_integer) (defBody s_is_integer) (defScope s_is_integer) .none kV_is_integer dc_is_integer pm_is_integer an_is_integer cd_is_integer ct_is_integer), sl_is_integer⟩)
    (c_is_integer : PySem.W.codeIn K cd_is_integer "is_integer" = true)
    (k_is_integer : PySem.W.keepIn K (.ref f_is_integer) = true)
    (a_is_between : PySem.W.nsIn K mainGlobals "is_between" = some (some (.ref f_is_between)))
    (l_is_between : K.lookup f_is_between = some ⟨oc_is_between, od_is_between, .func (PySem.W.fnOf "is_between" "is_between" (defArgs s_is_between) (defBody s_is_between) (defScope s_is_between) .none kV_is_between dc_is_between pm_is_between an_is_between cd_is_between ct_is_between), sl_is_between⟩)
    (c_is_between : PySem.W.codeIn K cd_is_between "is_between" = true)
    (k_is_between : PySem.W.keepIn K (.ref f_is_between) = true)
    (a_is_tuple_of : PySem.W.nsIn K mainGlobals "is_tuple_of" = some (some (.ref f_is_tuple_of)))
    (l_is_tuple_of : K.lookup f_is_tuple_of = some ⟨oc_is_tuple_of, od_is_tuple_of, .func (PySem.W.fnOf "is_tuple_of" "is_tuple_of" (defArgs s_is_tuple_of) (defBody s_is_tuple_of) (defScope s_is_tuple_of) .none kV_is_tuple_of dc_is_tuple_of pm_is_tuple_of an_is_tuple_of cd_is_tuple_of ct_is_tuple_of), sl_is_tuple_of⟩)
    (c_is_tuple_of : PySem.W.codeIn K cd_is_tuple_of "is_tuple_of" = true)
    (k_is_tuple_of : PySem.W.keepIn K (.ref f_is_tuple_of) = true)
    (a_are_stamps : PySem.W.nsIn K mainGlobals "are_stamps" = some (some (.ref f_are_stamps)))
    (l_are_stamps : K.lookup f_are_stamps = some ⟨oc_are_stamps, od_are_stamps, .func (PySem.W.fnOf "are_stamps" "are_stamps" (defArgs s_are_stamps) (defBody s_are_stamps) (defScope s_are_stamps) .none kV_are_stamps dc_are_stamps pm_are_stamps an_are_stamps cd_are_stamps ct_are_stamps), sl_are_stamps⟩)
    (c_are_stamps : PySem.W.codeIn K cd_are_stamps "are_stamps" = true)
    (k_are_stamps : PySem.W.keepIn K (.ref f_are_stamps) = true)
    (a_are_rows : PySem.W.nsIn K mainGlobals "are_rows" = some (some (.ref f_are_rows)))
    (l_are_rows : K.lookup f_are_rows = some ⟨oc_are_rows, od_are_rows, .func (PySem.W.fnOf "are_rows" "are_rows" (defArgs s_are_rows) (defBody s_are_rows) (defScope s_are_rows) .none kV_are_rows dc_are_rows pm_are_rows an_are_rows cd_are_rows ct_are_rows), sl_are_rows⟩)
    (c_are_rows : PySem.W.codeIn K cd_are_rows "are_rows" = true)
    (k_are_rows : PySem.W.keepIn K (.ref f_are_rows) = true)
    (a_are_words : PySem.W.nsIn K mainGlobals "are_words" = some (some (.ref f_are_words)))
    (l_are_words : K.lookup f_are_words = some ⟨oc_are_words, od_are_words, .func (PySem.W.fnOf "are_words" "are_words" (defArgs s_are_words) (defBody s_are_words) (defScope s_are_words) .none kV_are_words dc_are_words pm_are_words an_are_words cd_are_words ct_are_words), sl_are_words⟩)
    (c_are_words : PySem.W.codeIn K cd_are_words "are_words" = true)
    (k_are_words : PySem.W.keepIn K (.ref f_are_words) = true)
    (a_are_looks : PySem.W.nsIn K mainGlobals "are_looks" = some (some (.ref f_are_looks)))
    (l_are_looks : K.lookup f_are_looks = some ⟨oc_are_looks, od_are_looks, .func (PySem.W.fnOf "are_looks" "are_looks" (defArgs s_are_looks) (defBody s_are_looks) (defScope s_are_looks) .none kV_are_looks dc_are_looks pm_are_looks an_are_looks cd_are_looks ct_are_looks), sl_are_looks⟩)
    (c_are_looks : PySem.W.codeIn K cd_are_looks "are_looks" = true)
    (k_are_looks : PySem.W.keepIn K (.ref f_are_looks) = true)
    (a_wrong_part : PySem.W.nsIn K mainGlobals "wrong_part" = some (some (.ref f_wrong_part)))
    (l_wrong_part : K.lookup f_wrong_part = some ⟨oc_wrong_part, od_wrong_part, .func (PySem.W.fnOf "wrong_part" "wrong_part" (defArgs s_wrong_part) (defBody s_wrong_part) (defScope s_wrong_part) .none kV_wrong_part dc_wrong_part pm_wrong_part an_wrong_part cd_wrong_part ct_wrong_part), sl_wrong_part⟩)
    (c_wrong_part : PySem.W.codeIn K cd_wrong_part "wrong_part" = true)
    (k_wrong_part : PySem.W.keepIn K (.ref f_wrong_part) = true)
    (a__law_pot : PySem.W.nsIn K mainGlobals "_law_pot" = some (some (.ref f__law_pot)))
    (l__law_pot : K.lookup f__law_pot = some ⟨oc__law_pot, od__law_pot, .func (PySem.W.fnOf "_law_pot" "_law_pot" (defArgs s__law_pot) (defBody s__law_pot) (defScope s__law_pot) .none kV__law_pot dc__law_pot pm__law_pot an__law_pot cd__law_pot ct__law_pot), sl__law_pot⟩)
    (c__law_pot : PySem.W.codeIn K cd__law_pot "_law_pot" = true)
    (k__law_pot : PySem.W.keepIn K (.ref f__law_pot) = true)
    (a__law_draw : PySem.W.nsIn K mainGlobals "_law_draw" = some (some (.ref f__law_draw)))
    (l__law_draw : K.lookup f__law_draw = some ⟨oc__law_draw, od__law_draw, .func (PySem.W.fnOf "_law_draw" "_law_draw" (defArgs s__law_draw) (defBody s__law_draw) (defScope s__law_draw) .none kV__law_draw dc__law_draw pm__law_draw an__law_draw cd__law_draw ct__law_draw), sl__law_draw⟩)
    (c__law_draw : PySem.W.codeIn K cd__law_draw "_law_draw" = true)
    (k__law_draw : PySem.W.keepIn K (.ref f__law_draw) = true)
    (a__law_any : PySem.W.nsIn K mainGlobals "_law_any" = some (some (.ref f__law_any)))
    (l__law_any : K.lookup f__law_any = some ⟨oc__law_any, od__law_any, .func (PySem.W.fnOf "_law_any" "_law_any" (defArgs s__law_any) (defBody s__law_any) (defScope s__law_any) .none kV__law_any dc__law_any pm__law_any an__law_any cd__law_any ct__law_any), sl__law_any⟩)
    (c__law_any : PySem.W.codeIn K cd__law_any "_law_any" = true)
    (k__law_any : PySem.W.keepIn K (.ref f__law_any) = true)
    (a__law_deep : PySem.W.nsIn K mainGlobals "_law_deep" = some (some (.ref f__law_deep)))
    (l__law_deep : K.lookup f__law_deep = some ⟨oc__law_deep, od__law_deep, .func (PySem.W.fnOf "_law_deep" "_law_deep" (defArgs s__law_deep) (defBody s__law_deep) (defScope s__law_deep) .none kV__law_deep dc__law_deep pm__law_deep an__law_deep cd__law_deep ct__law_deep), sl__law_deep⟩)
    (c__law_deep : PySem.W.codeIn K cd__law_deep "_law_deep" = true)
    (k__law_deep : PySem.W.keepIn K (.ref f__law_deep) = true)
    (a__law_rows : PySem.W.nsIn K mainGlobals "_law_rows" = some (some (.ref f__law_rows)))
    (l__law_rows : K.lookup f__law_rows = some ⟨oc__law_rows, od__law_rows, .func (PySem.W.fnOf "_law_rows" "_law_rows" (defArgs s__law_rows) (defBody s__law_rows) (defScope s__law_rows) .none kV__law_rows dc__law_rows pm__law_rows an__law_rows cd__law_rows ct__law_rows), sl__law_rows⟩)
    (c__law_rows : PySem.W.codeIn K cd__law_rows "_law_rows" = true)
    (k__law_rows : PySem.W.keepIn K (.ref f__law_rows) = true)
    (a__law_are : PySem.W.nsIn K mainGlobals "_law_are" = some (some (.ref f__law_are)))
    (l__law_are : K.lookup f__law_are = some ⟨oc__law_are, od__law_are, .func (PySem.W.fnOf "_law_are" "_law_are" (defArgs s__law_are) (defBody s__law_are) (defScope s__law_are) .none kV__law_are dc__law_are pm__law_are an__law_are cd__law_are ct__law_are), sl__law_are⟩)
    (c__law_are : PySem.W.codeIn K cd__law_are "_law_are" = true)
    (k__law_are : PySem.W.keepIn K (.ref f__law_are) = true)
    (a__law_due : PySem.W.nsIn K mainGlobals "_law_due" = some (some (.ref f__law_due)))
    (l__law_due : K.lookup f__law_due = some ⟨oc__law_due, od__law_due, .func (PySem.W.fnOf "_law_due" "_law_due" (defArgs s__law_due) (defBody s__law_due) (defScope s__law_due) .none kV__law_due dc__law_due pm__law_due an__law_due cd__law_due ct__law_due), sl__law_due⟩)
    (c__law_due : PySem.W.codeIn K cd__law_due "_law_due" = true)
    (k__law_due : PySem.W.keepIn K (.ref f__law_due) = true)
    (a__law_told : PySem.W.nsIn K mainGlobals "_law_told" = some (some (.ref f__law_told)))
    (l__law_told : K.lookup f__law_told = some ⟨oc__law_told, od__law_told, .func (PySem.W.fnOf "_law_told" "_law_told" (defArgs s__law_told) (defBody s__law_told) (defScope s__law_told) .none kV__law_told dc__law_told pm__law_told an__law_told cd__law_told ct__law_told), sl__law_told⟩)
    (c__law_told : PySem.W.codeIn K cd__law_told "_law_told" = true)
    (k__law_told : PySem.W.keepIn K (.ref f__law_told) = true)
    (a__law_bent : PySem.W.nsIn K mainGlobals "_law_bent" = some (some (.ref f__law_bent)))
    (l__law_bent : K.lookup f__law_bent = some ⟨oc__law_bent, od__law_bent, .func (PySem.W.fnOf "_law_bent" "_law_bent" (defArgs s__law_bent) (defBody s__law_bent) (defScope s__law_bent) .none kV__law_bent dc__law_bent pm__law_bent an__law_bent cd__law_bent ct__law_bent), sl__law_bent⟩)
    (c__law_bent : PySem.W.codeIn K cd__law_bent "_law_bent" = true)
    (k__law_bent : PySem.W.keepIn K (.ref f__law_bent) = true)
    (a__law_great : PySem.W.nsIn K mainGlobals "_law_great" = some (some (.ref f__law_great)))
    (l__law_great : K.lookup f__law_great = some ⟨oc__law_great, od__law_great, .func (PySem.W.fnOf "_law_great" "_law_great" (defArgs s__law_great) (defBody s__law_great) (defScope s__law_great) .none kV__law_great dc__law_great pm__law_great an__law_great cd__law_great ct__law_great), sl__law_great⟩)
    (c__law_great : PySem.W.codeIn K cd__law_great "_law_great" = true)
    (k__law_great : PySem.W.keepIn K (.ref f__law_great) = true)
    (a_law : PySem.W.nsIn K mainGlobals "law" = some (some (.ref f_law)))
    (l_law : K.lookup f_law = some ⟨oc_law, od_law, .func (PySem.W.fnOf "law" "law" (defArgs s_law) (defBody s_law) (defScope s_law) .none kV_law dc_law pm_law an_law cd_law ct_law), sl_law⟩)
    (c_law : PySem.W.codeIn K cd_law "law" = true)
    (k_law : PySem.W.keepIn K (.ref f_law) = true)
    (g_Book : PySem.W.nsIn K mainGlobals "Book" = some (some (.ref cBook)))
    (g_BadBook : PySem.W.nsIn K mainGlobals "BadBook" = some (some (.ref cBadBook)))
    (g_CopyError : PySem.W.nsIn K mainGlobals "CopyError" = some (some (.ref cCopyError)))
    (pg_Book : PySem.W.plainGet K cBook Str.empty = true)
    (hd_Book : PySem.W.hasDictIn K cBook = true)
    (po_Book : PySem.W.plainOver K cBook = true)
    (sa_Book : PySem.W.findIn K (.ref cBook) "__setattr__" = some (some (.builtin "object.__setattr__")))
    (mk_Book : PySem.W.makesIn K cBook = true)
    (kc_Book : PySem.W.keepIn K (.ref cBook) = true)
    (no_Book_first : PySem.W.findIn K (.ref cBook) "first" = some none)
    (no_Book_changes : PySem.W.findIn K (.ref cBook) "changes" = some none)
    (no_Book_forks : PySem.W.findIn K (.ref cBook) "forks" = some none)
    (no_Book_joins : PySem.W.findIn K (.ref cBook) "joins" = some none)
    (no_Book_looks : PySem.W.findIn K (.ref cBook) "looks" = some none)
    (a_Book___init__ : PySem.W.findIn K (.ref cBook) "__init__" = some (some (.ref f_Book___init__)))
    (l_Book___init__ : K.lookup f_Book___init__ = some ⟨oc_Book___init__, od_Book___init__, .func (PySem.W.fnOf "__init__" "Book.__init__" (defArgs s_Book___init__) (defBody s_Book___init__) (defScope s_Book___init__) .none kV_Book___init__ dc_Book___init__ pm_Book___init__ an_Book___init__ cd_Book___init__ ct_Book___init__), sl_Book___init__⟩)
    (c_Book___init__ : PySem.W.codeIn K cd_Book___init__ "Book.__init__" = true)
    (k_Book___init__ : PySem.W.keepIn K (.ref f_Book___init__) = true)
    (i_Book___init__ : PySem.W.isFn K (.ref f_Book___init__) = true)
    (x_BadBook : K.lookup cBadBook = some (excClassObj nm_BadBook q_BadBook cBadBook N_BadBook bs_BadBook bm_BadBook true sn_BadBook sub_BadBook ab_BadBook col_BadBook dd_BadBook m0_BadBook m1_BadBook m2_BadBook m3_BadBook m5_BadBook "ValueError.__new__"))
    (sa_BadBook : PySem.W.findIn K (.ref cBadBook) "__setattr__" = some (some (.builtin "object.__setattr__")))
    (ga_BadBook : PySem.W.findIn K (.ref cBadBook) "__getattribute__" = some (some (.builtin "BaseException.__getattribute__")))
    (gg_BadBook : PySem.W.findIn K (.ref cBadBook) "__getattr__" = some none)
    (nb_BadBook : PySem.W.findIn K (.ref cBadBook) "part" = some none)
    (kC_BadBook : PySem.W.keepIn K (.ref cBadBook) = true)
    (eC_BadBook : PySem.W.subIn K (.ref cBadBook) (.type "BaseException") = some true)
    (tC_BadBook : PySem.W.typeIn K (.ref cBadBook) = some (.type "type"))
    (hC_BadBook : PySem.W.hasDictIn K cBadBook = true)
    (iC_BadBook : PySem.W.isClsIn K cBadBook = true)
    (sC_BadBook : PySem.W.subIn K (.ref cBadBook) (.ref cBadBook) = some true)
    (vC_BadBook : PySem.W.subIn K (.ref cBadBook) (.type "ValueError") = some true)
    (ca_BadBook : PySem.W.findIn K (.ref cBadBook) "__class__" = some (some (.builtin "object.__class__")))
    (cn_BadBook : PySem.W.specialIn K (.builtin "object.__class__") "__get__" = some (some (.builtin "getset_descriptor.__get__")))
    (ck_BadBook : PySem.W.takesIn K (.builtin "object.__class__") = some true)
    (cm_BadBook : PySem.W.mroIn K cBadBook (.type "object") = some true)
    (rv_BadBook : PySem.HandSPX.refsVE bm_BadBook = true)
    (a_BadBook___init__ : PySem.W.findIn K (.ref cBadBook) "__init__" = some (some (.ref f_BadBook___init__)))
    (l_BadBook___init__ : K.lookup f_BadBook___init__ = some ⟨oc_BadBook___init__, od_BadBook___init__, .func (PySem.W.fnOf "__init__" "BadBook.__init__" (defArgs s_BadBook___init__) (defBody s_BadBook___init__) (defScope s_BadBook___init__) .none kV_BadBook___init__ dc_BadBook___init__ pm_BadBook___init__ an_BadBook___init__ cd_BadBook___init__ ct_BadBook___init__), sl_BadBook___init__⟩)
    (c_BadBook___init__ : PySem.W.codeIn K cd_BadBook___init__ "BadBook.__init__" = true)
    (k_BadBook___init__ : PySem.W.keepIn K (.ref f_BadBook___init__) = true)
    (t_BadBook___init__ : PySem.W.typeIn K (.ref f_BadBook___init__) = some (.type "function"))
    (g_WORDS : PySem.W.nsIn K mainGlobals "WORDS" = some (some (.ref aW)))
    (x_WORDS : K.lookup aW = some ⟨.type "tuple", odW, .seq #[.str "same" w1, .str "newer" w2, .str "elder" w3, .str "apart" w4] nW, slW⟩)
    (g_MOST : PySem.W.nsIn K mainGlobals "MOST_STAMPS" = some (some (.int 400 tM)))
    (sv_BadBook : PySem.W.subIn K (.ref cBadBook) (.ref cCopyError) = some true)
    (ty_Copy : PySem.W.typeIn K (.ref cCopyError) = some (.type "type"))
    (is_Copy : PySem.W.isClsIn K cCopyError = true) :
    ∃ fd : FuncData, (∀ (s : Shared) (u : Value), BindsTo s fd ⟨[u], []⟩ [("script", u)]) ∧ ∀ base : Heap, K.In base → base.Ns mainGlobals mg → FnOk l.prog w K mg base (L2.CX l.prog w) 60 fa fd ["script"] (liftSp K spLaw) := by
  have e := hfa.symm.trans (PySem.W.mg_of X G a_law)
  cases e
  have F_is_integer := fun_mk (st := s_is_integer) l_is_integer c_is_integer k_is_integer
  have b_is_integer := F_is_integer.binds (ps := ["thing"]) fun _ _ _ _ _ _ us hl => match us, hl with | [_], _ => rfl
  have F_is_between := fun_mk (st := s_is_between) l_is_between c_is_between k_is_between
  have b_is_between := F_is_between.binds (ps := ["thing", "least", "most"]) fun _ _ _ _ _ _ us hl => match us, hl with | [_, _, _], _ => rfl
  have F_is_tuple_of := fun_mk (st := s_is_tuple_of) l_is_tuple_of c_is_tuple_of k_is_tuple_of
  have b_is_tuple_of := F_is_tuple_of.binds (ps := ["thing", "length"]) fun _ _ _ _ _ _ us hl => match us, hl with | [_, _], _ => rfl
  have F_are_stamps := fun_mk (st := s_are_stamps) l_are_stamps c_are_stamps k_are_stamps
  have b_are_stamps := F_are_stamps.binds (ps := ["thing", "length", "many"]) fun _ _ _ _ _ _ us hl => match us, hl with | [_, _, _], _ => rfl
  have F_are_rows := fun_mk (st := s_are_rows) l_are_rows c_are_rows k_are_rows
  have b_are_rows := F_are_rows.binds (ps := ["thing", "length", "many"]) fun _ _ _ _ _ _ us hl => match us, hl with | [_, _, _], _ => rfl
  have F_are_words := fun_mk (st := s_are_words) l_are_words c_are_words k_are_words
  have b_are_words := F_are_words.binds (ps := ["thing", "length"]) fun _ _ _ _ _ _ us hl => match us, hl with | [_, _], _ => rfl
  have F_are_looks := fun_mk (st := s_are_looks) l_are_looks c_are_looks k_are_looks
  have b_are_looks := F_are_looks.binds (ps := ["thing", "many"]) fun _ _ _ _ _ _ us hl => match us, hl with | [_, _], _ => rfl
  have F_wrong_part := fun_mk (st := s_wrong_part) l_wrong_part c_wrong_part k_wrong_part
  have b_wrong_part := F_wrong_part.binds (ps := ["first", "changes", "forks", "joins", "looks"]) fun _ _ _ _ _ _ us hl => match us, hl with | [_, _, _, _, _], _ => rfl
  have F__law_pot := fun_mk (st := s__law_pot) l__law_pot c__law_pot k__law_pot
  have b__law_pot := F__law_pot.binds (ps := ["script"]) fun _ _ _ _ _ _ us hl => match us, hl with | [_], _ => rfl
  have F__law_draw := fun_mk (st := s__law_draw) l__law_draw c__law_draw k__law_draw
  have b__law_draw := F__law_draw.binds (ps := ["pot", "many"]) fun _ _ _ _ _ _ us hl => match us, hl with | [_, _], _ => rfl
  have F__law_any := fun_mk (st := s__law_any) l__law_any c__law_any k__law_any
  have b__law_any := F__law_any.binds (ps := ["pot", "items"]) fun _ _ _ _ _ _ us hl => match us, hl with | [_, _], _ => rfl
  have F__law_deep := fun_mk (st := s__law_deep) l__law_deep c__law_deep k__law_deep
  have b__law_deep := F__law_deep.binds (ps := []) fun _ _ _ _ _ _ us hl => match us, hl with | [], _ => rfl
  have F__law_rows := fun_mk (st := s__law_rows) l__law_rows c__law_rows k__law_rows
  have b__law_rows := F__law_rows.binds (ps := ["hand", "many", "looks"]) fun _ _ _ _ _ _ us hl => match us, hl with | [_, _, _], _ => rfl
  have F__law_are := fun_mk (st := s__law_are) l__law_are c__law_are k__law_are
  have b__law_are := F__law_are.binds (ps := ["thing", "many", "stock"]) fun _ _ _ _ _ _ us hl => match us, hl with | [_, _, _], _ => rfl
  have F__law_due := fun_mk (st := s__law_due) l__law_due c__law_due k__law_due
  have b__law_due := F__law_due.binds (ps := ["rows"]) fun _ _ _ _ _ _ us hl => match us, hl with | [_], _ => rfl
  have F__law_told := fun_mk (st := s__law_told) l__law_told c__law_told k__law_told
  have b__law_told := F__law_told.binds (ps := ["rows"]) fun _ _ _ _ _ _ us hl => match us, hl with | [_], _ => rfl
  have F__law_bent := fun_mk (st := s__law_bent) l__law_bent c__law_bent k__law_bent
  have b__law_bent := F__law_bent.binds (ps := ["hand", "thing", "odd"]) fun _ _ _ _ _ _ us hl => match us, hl with | [_, _, _], _ => rfl
  have F__law_great := fun_mk (st := s__law_great) l__law_great c__law_great k__law_great
  have b__law_great := F__law_great.binds (ps := ["many"]) fun _ _ _ _ _ _ us hl => match us, hl with | [_], _ => rfl
  have F_law := fun_mk (st := s_law) l_law c_law k_law
  have b_law := F_law.binds (ps := ["script"]) fun _ _ _ _ _ _ us hl => match us, hl with | [_], _ => rfl
  have F_Book___init__ := fun_mk (st := s_Book___init__) l_Book___init__ c_Book___init__ k_Book___init__
  have b_Book___init__ := F_Book___init__.binds (ps := ["self", "first", "changes", "forks", "joins", "looks"]) fun _ _ _ _ _ _ us hl => match us, hl with | [_, _, _, _, _, _], _ => rfl
  have F_BadBook___init__ := fun_mk (st := s_BadBook___init__) l_BadBook___init__ c_BadBook___init__ k_BadBook___init__
  have b_BadBook___init__ := F_BadBook___init__.binds (ps := ["self", "part"]) fun _ _ _ _ _ _ us hl => match us, hl with | [_, _], _ => rfl
  have T : Txt K mg cBook cBadBook cCopyError := {
    b_ValueError := PySem.W.mg_none_of X G z_ValueError,
    b_abs := PySem.W.mg_none_of X G z_abs,
    b_all := PySem.W.mg_none_of X G z_all,
    b_any := PySem.W.mg_none_of X G z_any,
    b_bool := PySem.W.mg_none_of X G z_bool,
    b_dict := PySem.W.mg_none_of X G z_dict,
    b_enumerate := PySem.W.mg_none_of X G z_enumerate,
    b_int := PySem.W.mg_none_of X G z_int,
    b_isinstance := PySem.W.mg_none_of X G z_isinstance,
    b_len := PySem.W.mg_none_of X G z_len,
    b_list := PySem.W.mg_none_of X G z_list,
    b_max := PySem.W.mg_none_of X G z_max,
    b_min := PySem.W.mg_none_of X G z_min,
    b_range := PySem.W.mg_none_of X G z_range,
    b_set := PySem.W.mg_none_of X G z_set,
    b_sorted := PySem.W.mg_none_of X G z_sorted,
    b_str := PySem.W.mg_none_of X G z_str,
    b_sum := PySem.W.mg_none_of X G z_sum,
    b_tuple := PySem.W.mg_none_of X G z_tuple,
    b_type := PySem.W.mg_none_of X G z_type,
    d_is_integer := ⟨_, _, F_is_integer, PySem.W.mg_of X G a_is_integer, k_is_integer, b_is_integer⟩,
    d_is_between := ⟨_, _, F_is_between, PySem.W.mg_of X G a_is_between, k_is_between, b_is_between⟩,
    d_is_tuple_of := ⟨_, _, F_is_tuple_of, PySem.W.mg_of X G a_is_tuple_of, k_is_tuple_of, b_is_tuple_of⟩,
    d_are_stamps := ⟨_, _, F_are_stamps, PySem.W.mg_of X G a_are_stamps, k_are_stamps, b_are_stamps⟩,
    d_are_rows := ⟨_, _, F_are_rows, PySem.W.mg_of X G a_are_rows, k_are_rows, b_are_rows⟩,
    d_are_words := ⟨_, _, F_are_words, PySem.W.mg_of X G a_are_words, k_are_words, b_are_words⟩,
    d_are_looks := ⟨_, _, F_are_looks, PySem.W.mg_of X G a_are_looks, k_are_looks, b_are_looks⟩,
    d_wrong_part := ⟨_, _, F_wrong_part, PySem.W.mg_of X G a_wrong_part, k_wrong_part, b_wrong_part⟩,
    d__law_pot := ⟨_, _, F__law_pot, PySem.W.mg_of X G a__law_pot, k__law_pot, b__law_pot⟩,
    d__law_draw := ⟨_, _, F__law_draw, PySem.W.mg_of X G a__law_draw, k__law_draw, b__law_draw⟩,
    d__law_any := ⟨_, _, F__law_any, PySem.W.mg_of X G a__law_any, k__law_any, b__law_any⟩,
    d__law_deep := ⟨_, _, F__law_deep, PySem.W.mg_of X G a__law_deep, k__law_deep, b__law_deep⟩,
    d__law_rows := ⟨_, _, F__law_rows, PySem.W.mg_of X G a__law_rows, k__law_rows, b__law_rows⟩,
    d__law_are := ⟨_, _, F__law_are, PySem.W.mg_of X G a__law_are, k__law_are, b__law_are⟩,
    d__law_due := ⟨_, _, F__law_due, PySem.W.mg_of X G a__law_due, k__law_due, b__law_due⟩,
    d__law_told := ⟨_, _, F__law_told, PySem.W.mg_of X G a__law_told, k__law_told, b__law_told⟩,
    d__law_bent := ⟨_, _, F__law_bent, PySem.W.mg_of X G a__law_bent, k__law_bent, b__law_bent⟩,
    d__law_great := ⟨_, _, F__law_great, PySem.W.mg_of X G a__law_great, k__law_great, b__law_great⟩,
    d_law := ⟨_, _, F_law, PySem.W.mg_of X G a_law, k_law, b_law⟩,
    f_first := fun C e => by rw [e]; exact ⟨⟨pg_Book, hd_Book, po_Book, sa_Book⟩, no_Book_first⟩,
    f_changes := fun C e => by rw [e]; exact ⟨⟨pg_Book, hd_Book, po_Book, sa_Book⟩, no_Book_changes⟩,
    f_forks := fun C e => by rw [e]; exact ⟨⟨pg_Book, hd_Book, po_Book, sa_Book⟩, no_Book_forks⟩,
    f_joins := fun C e => by rw [e]; exact ⟨⟨pg_Book, hd_Book, po_Book, sa_Book⟩, no_Book_joins⟩,
    f_looks := fun C e => by rw [e]; exact ⟨⟨pg_Book, hd_Book, po_Book, sa_Book⟩, no_Book_looks⟩,
    d_Book___init__ := ⟨_, _, F_Book___init__, ⟨mk_Book, a_Book___init__, i_Book___init__, kc_Book⟩, PySem.W.mg_of X G g_Book, b_Book___init__⟩,
    d_BadBook___init__ := ⟨_, _, F_BadBook___init__, ⟨⟨kC_BadBook, eC_BadBook, tC_BadBook⟩, ⟨_, _, _, _, _, _, _, _, _, _, _, _, _, _, _, x_BadBook, rv_BadBook⟩, sa_BadBook, nb_BadBook, a_BadBook___init__, t_BadBook___init__⟩, b_BadBook___init__⟩,
    c_BadBook := PySem.W.mg_of X G g_BadBook,
    k_WORDS := ⟨.ref aW, .ref aW, PySem.W.mg_of X G g_WORDS, rfl, fun φ H => by rw [RD]; exact ⟨aW, [.str "same", .str "newer", .str "elder", .str "apart"], rfl, .inr ⟨_, _, _, x_WORDS, rfl, rfl, small (Nat.le_of_ble_eq_true rfl), .cons ⟨_, rfl⟩ (.cons ⟨_, rfl⟩ (.cons ⟨_, rfl⟩ (.cons ⟨_, rfl⟩ .nil)))⟩, by simp only [List.map_cons, List.map_nil, RDs, RD]; exact ⟨_, _, rfl, rfl, _, _, rfl, rfl, _, _, rfl, rfl, _, _, rfl, rfl, rfl⟩⟩⟩,
    k_MOST_STAMPS := ⟨.int 400, .int 400 tM, PySem.W.mg_of X G g_MOST, ⟨tM, rfl⟩, fun φ H => by rw [RD]⟩,
    c_CopyError := PySem.W.mg_of X G g_CopyError,
    em_BadBook := exm_self eC_BadBook iC_BadBook tC_BadBook sC_BadBook,
    xi := ⟨iC_BadBook, ga_BadBook, gg_BadBook, eC_BadBook, ca_BadBook, cn_BadBook, ck_BadBook, cm_BadBook⟩,
    kit := kit_one (kit_ty_of vC_BadBook) (kit_cls_of is_Copy ty_Copy sv_BadBook),
    xf := ⟨ga_BadBook, gg_BadBook, eC_BadBook, hC_BadBook⟩,
    nof := nb_BadBook }
  exact ⟨PySem.W.fnOf "law" "law" (defArgs s_law) (defBody s_law) (defScope s_law) .none kV_law dc_law pm_law an_law cd_law ct_law, fun s u => .of_eq rfl, fun base _ _ => okF_law T (ok__law_pot T) (ok__law_draw T) (ok__law_rows T (ok__law_draw T)) (ok__law_told T (ok_Book___init__ T (ok_wrong_part T (ok_are_stamps T (ok_is_tuple_of T) (ok_is_between T (ok_is_integer T))) (ok_is_between T (ok_is_integer T)) (ok_are_rows T (ok_is_tuple_of T) (ok_are_stamps T (ok_is_tuple_of T) (ok_is_between T (ok_is_integer T)))) (ok_are_looks T (ok_is_tuple_of T) (ok_are_words T (ok_is_tuple_of T)))) (ok_BadBook T))) (ok__law_deep T) (ok_bent T (ok__law_draw T) (ok__law_any T (ok__law_draw T)) 17) (ok__law_due T (ok__law_are T)) (ok__law_great T) F_law⟩
end K12
open PySem PySem.W PyProof.Rows in
set_option maxRecDepth 100000 in
set_option maxHeartbeats 0 in
theorem PySem.Challenge.cw_threecopies_k12_books_judged_holds : PySem.Challenge.rw_threecopies_k12_books_judged.Holds := by
  w_on; o_law; k_head; (case hw => w_witness2)
  k_fill
  refine Dy.dy_walk (l := PySem.Challenge.rw_threecopies_k12_books_judged) (k := 60) rfl rfl ⟨rfl, by decide, by decide⟩ (fun w h Y => PySem.W.kIn_of Y) ?F
  case F =>
    intro w mg fa h KX G hmg
    refine' K12.all_mk KX G hmg ?z_ValueError ?z_abs ?z_all ?z_any ?z_bool ?z_dict ?z_enumerate ?z_int ?z_isinstance ?z_len ?z_list ?z_max ?z_min ?z_range ?z_set ?z_sorted ?z_str ?z_sum ?z_tuple ?z_type ?a_is_integer ?l_is_integer ?c_is_integer ?k_is_integer ?a_is_between ?l_is_between ?c_is_between ?k_is_between ?a_is_tuple_of ?l_is_tuple_of ?c_is_tuple_of ?k_is_tuple_of ?a_are_stamps ?l_are_stamps ?c_are_stamps ?k_are_stamps ?a_are_rows ?l_are_rows ?c_are_rows ?k_are_rows ?a_are_words ?l_are_words ?c_are_words ?k_are_words ?a_are_looks ?l_are_looks ?c_are_looks ?k_are_looks ?a_wrong_part ?l_wrong_part ?c_wrong_part ?k_wrong_part ?a__law_pot ?l__law_pot ?c__law_pot ?k__law_pot ?a__law_draw ?l__law_draw ?c__law_draw ?k__law_draw ?a__law_any ?l__law_any ?c__law_any ?k__law_any ?a__law_deep ?l__law_deep ?c__law_deep ?k__law_deep ?a__law_rows ?l__law_rows ?c__law_rows ?k__law_rows ?a__law_are ?l__law_are ?c__law_are ?k__law_are ?a__law_due ?l__law_due ?c__law_due ?k__law_due ?a__law_told ?l__law_told ?c__law_told ?k__law_told ?a__law_bent ?l__law_bent ?c__law_bent ?k__law_bent ?a__law_great ?l__law_great ?c__law_great ?k__law_great ?a_law ?l_law ?c_law ?k_law ?g_Book ?g_BadBook ?g_CopyError ?pg_Book ?hd_Book ?po_Book ?sa_Book ?mk_Book ?kc_Book ?no_Book_first ?no_Book_changes ?no_Book_forks ?no_Book_joins ?no_Book_looks ?a_Book___init__ ?l_Book___init__ ?c_Book___init__ ?k_Book___init__ ?i_Book___init__ ?x_BadBook ?sa_BadBook ?ga_BadBook ?gg_BadBook ?nb_BadBook ?kC_BadBook ?eC_BadBook ?tC_BadBook ?hC_BadBook ?iC_BadBook ?sC_BadBook ?vC_BadBook ?ca_BadBook ?cn_BadBook ?ck_BadBook ?cm_BadBook ?rv_BadBook ?a_BadBook___init__ ?l_BadBook___init__ ?c_BadBook___init__ ?k_BadBook___init__ ?t_BadBook___init__ ?g_WORDS ?x_WORDS ?g_MOST ?sv_BadBook ?ty_Copy ?is_Copy
    (case z_ValueError => k_is)
    (case z_abs => k_is)
    (case z_all => k_is)
    (case z_any => k_is)
    (case z_bool => k_is)
    (case z_dict => k_is)
    (case z_enumerate => k_is)
    (case z_int => k_is)
    (case z_isinstance => k_is)
    (case z_len => k_is)
    (case z_list => k_is)
    (case z_max => k_is)
    (case z_min => k_is)
    (case z_range => k_is)
    (case z_set => k_is)
    (case z_sorted => k_is)
    (case z_str => k_is)
    (case z_sum => k_is)
    (case z_tuple => k_is)
    (case z_type => k_is)
    (case a_is_integer => k_is)
    (case l_is_integer => k_is)
    (case c_is_integer => k_is)
    (case k_is_integer => k_is)
    (case a_is_between => k_is)
    (case l_is_between => k_is)
    (case c_is_between => k_is)
    (case k_is_between => k_is)
    (case a_is_tuple_of => k_is)
    (case l_is_tuple_of => k_is)
    (case c_is_tuple_of => k_is)
    (case k_is_tuple_of => k_is)
    (case a_are_stamps => k_is)
    (case l_are_stamps => k_is)
    (case c_are_stamps => k_is)
    (case k_are_stamps => k_is)
    (case a_are_rows => k_is)
    (case l_are_rows => k_is)
    (case c_are_rows => k_is)
    (case k_are_rows => k_is)
    (case a_are_words => k_is)
    (case l_are_words => k_is)
    (case c_are_words => k_is)
    (case k_are_words => k_is)
    (case a_are_looks => k_is)
    (case l_are_looks => k_is)
    (case c_are_looks => k_is)
    (case k_are_looks => k_is)
    (case a_wrong_part => k_is)
    (case l_wrong_part => k_is)
    (case c_wrong_part => k_is)
    (case k_wrong_part => k_is)
    (case a__law_pot => k_is)
    (case l__law_pot => k_is)
    (case c__law_pot => k_is)
    (case k__law_pot => k_is)
    (case a__law_draw => k_is)
    (case l__law_draw => k_is)
    (case c__law_draw => k_is)
    (case k__law_draw => k_is)
    (case a__law_any => k_is)
    (case l__law_any => k_is)
    (case c__law_any => k_is)
    (case k__law_any => k_is)
    (case a__law_deep => k_is)
    (case l__law_deep => k_is)
    (case c__law_deep => k_is)
    (case k__law_deep => k_is)
    (case a__law_rows => k_is)
    (case l__law_rows => k_is)
    (case c__law_rows => k_is)
    (case k__law_rows => k_is)
    (case a__law_are => k_is)
    (case l__law_are => k_is)
    (case c__law_are => k_is)
    (case k__law_are => k_is)
    (case a__law_due => k_is)
    (case l__law_due => k_is)
    (case c__law_due => k_is)
    (case k__law_due => k_is)
    (case a__law_told => k_is)
    (case l__law_told => k_is)
    (case c__law_told => k_is)
    (case k__law_told => k_is)
    (case a__law_bent => k_is)
    (case l__law_bent => k_is)
    (case c__law_bent => k_is)
    (case k__law_bent => k_is)
    (case a__law_great => k_is)
    (case l__law_great => k_is)
    (case c__law_great => k_is)
    (case k__law_great => k_is)
    (case a_law => k_is)
    (case l_law => k_is)
    (case c_law => k_is)
    (case k_law => k_is)
    (case g_Book => k_is)
    (case g_BadBook => k_is)
    (case g_CopyError => k_is)
    (case pg_Book => k_is)
    (case hd_Book => k_is)
    (case po_Book => k_is)
    (case sa_Book => k_is)
    (case mk_Book => k_is)
    (case kc_Book => k_is)
    (case no_Book_first => k_is)
    (case no_Book_changes => k_is)
    (case no_Book_forks => k_is)
    (case no_Book_joins => k_is)
    (case no_Book_looks => k_is)
    (case a_Book___init__ => k_is)
    (case l_Book___init__ => k_is)
    (case c_Book___init__ => k_is)
    (case k_Book___init__ => k_is)
    (case i_Book___init__ => k_is)
    (case x_BadBook => k_is)
    (case sa_BadBook => k_is)
    (case ga_BadBook => k_is)
    (case gg_BadBook => k_is)
    (case nb_BadBook => k_is)
    (case kC_BadBook => k_is)
    (case eC_BadBook => k_is)
    (case tC_BadBook => k_is)
    (case hC_BadBook => k_is)
    (case iC_BadBook => k_is)
    (case sC_BadBook => k_is)
    (case vC_BadBook => k_is)
    (case ca_BadBook => k_is)
    (case cn_BadBook => k_is)
    (case ck_BadBook => k_is)
    (case cm_BadBook => k_is)
    (case rv_BadBook => decide +kernel)
    (case a_BadBook___init__ => k_is)
    (case l_BadBook___init__ => k_is)
    (case c_BadBook___init__ => k_is)
    (case k_BadBook___init__ => k_is)
    (case t_BadBook___init__ => k_is)
    (case g_WORDS => k_is)
    (case x_WORDS => k_is)
    (case g_MOST => k_is)
    (case sv_BadBook => k_is)
    (case ty_Copy => k_is)
    (case is_Copy => k_is)
